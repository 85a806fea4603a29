"""Placings of wanted leaves in free frames: [13]."""

import copy
import itertools
import random
import time
import unittest

from twinleaves.entries import entries
from twinleaves.errors import BadLayout, BadShape
from twinleaves.placing import Placing, placing
from twinleaves.shapes import Shape

SMALL = [(2, 3, 2), (2, 3, 1), (2, 3, 0), (2, 2, 1), (3, 2, 1), (4, 2, 1), (2, 4, 3), (2, 4, 2), (3, 1, 0)]


def full_runs(width, frames):
    return [first for first in frames if first % width == 0 and all(first + at in frames for at in range(width))]


def numbers_of(shape, wanted, free):
    """The numbers, word by word."""
    numbers = []
    for level in range(1, shape.widest() + 1):
        width = shape.width(level)
        runs = [first for first in full_runs(width, set(wanted))
                if len({wanted[first + at] for at in range(width)}) == 1]
        numbers.append(min(len(runs), len(full_runs(width, set(free)))))
    return numbers


class PlacingTest(unittest.TestCase):

    def judge(self, shape, wanted, free):
        found = placing(shape, wanted, free)
        if len(free) < len(wanted):
            self.assertIsNone(found)
            return None
        self.assertIs(found.shows(shape, wanted, free), True)
        self.assertEqual(found, placing(shape, dict(sorted(wanted.items())), tuple(free)))
        self.assertEqual(list(found.layout), sorted(wanted))
        self.assertEqual({leaf: pair[1] for leaf, pair in found.layout.items()}, wanted)
        frames = [pair[0] for pair in found.layout.values()]
        self.assertTrue(len(set(frames)) == len(frames) and set(frames) <= set(free))
        self.assertEqual(found.numbers, numbers_of(shape, wanted, free))
        self.assertEqual(len(entries(shape, found.layout).runs), len(wanted) - (shape.fan() - 1) * sum(found.numbers))
        return found

    def test_example(self):
        found = self.judge(Shape(2, 4, 2), {leaf: 'r' for leaf in range(8)}, [1, 2, 3, 4, 5, 6, 7, 9, 12, 13])
        self.assertEqual(found.numbers, [4, 1])

    def test_placings(self):
        shape = Shape(2, 4, 3)
        whole = {leaf: 'r' for leaf in range(16)}
        for wanted, free, numbers in (({}, [], [0, 0, 0]), ({}, [0, 1, 2, 3], [0, 0, 0]), (whole, list(range(16)), [8, 4, 2]),
                                      (whole, list(range(1, 17)), [7, 3, 1]), (whole, list(range(4, 20)), [8, 4, 1]),
                                      (whole, list(range(0, 32, 2)), [0, 0, 0]), (whole, list(range(15)), None),
                                      ({5: 'rw'}, [10 ** 9], [0, 0, 0]), ({5: 'rw'}, [], None),
                                      ({leaf: 'r' if leaf < 8 else 'rw' for leaf in range(16)}, list(range(64)), [8, 4, 2]),
                                      ({leaf: 'r' if leaf < 7 else 'rw' for leaf in range(16)}, list(range(64)), [7, 3, 1]),
                                      ({leaf: 'r' if leaf % 2 else 'rw' for leaf in range(16)}, list(range(64)), [0, 0, 0]),
                                      ({leaf: 'rw' for leaf in range(1, 15)}, list(range(64)), [6, 2, 0]),
                                      ({leaf: 'rw' for leaf in range(16) if leaf != 5}, list(range(64)), [7, 3, 1]),
                                      (whole, list(range(8, 16)) + list(range(10 ** 9 - 8, 10 ** 9)), [8, 4, 2]),
                                      (whole, list(range(8, 16)) + list(range(10 ** 9 - 7, 10 ** 9 + 1)), [7, 3, 1])):
            found = self.judge(shape, wanted, free)
            self.assertEqual(found and found.numbers, numbers, (wanted, free))

    def test_all_ways(self):
        for seed in range(120):
            dice = random.Random(seed)
            shape = Shape(*dice.choice([(2, 3, 2), (2, 3, 1), (3, 2, 1), (2, 2, 1), (4, 2, 1)]))
            wanted = {leaf: dice.choice(['r', 'r', 'r', 'rw']) for leaf in dice.sample(range(shape.leaves()), min(4, shape.leaves()))}
            if dice.random() < 0.5:
                first = dice.randrange(shape.leaves() - 3)
                wanted = {first + at: 'r' if seed % 3 else dice.choice(['r', 'rw']) for at in range(4)}
            low = dice.randrange(6)
            free = sorted(dice.sample(range(low, low + 9), dice.choice([4, 5, 6, 7])))
            fewest = min(len(entries(shape, {leaf: (frame, wanted[leaf]) for leaf, frame in zip(wanted, row)}).runs)
                         for row in itertools.permutations(free, len(wanted)))
            self.assertEqual(len(entries(shape, self.judge(shape, wanted, free).layout).runs), fewest, (wanted, free))

    def test_drawn_ones(self):
        for seed in range(400):
            dice = random.Random(seed)
            shape = Shape(*dice.choice(SMALL))
            much = dice.choice([0.3, 0.8, 0.95])
            right = dice.choice(['r', 'rw'])
            wanted = {leaf: right if dice.random() < 0.9 else 'r' for leaf in range(shape.leaves()) if dice.random() < much}
            rows = list(wanted.items())
            dice.shuffle(rows)
            free = [frame for frame in range(dice.choice([0, 3]), 3 * shape.leaves()) if dice.random() < dice.choice([0.5, 0.95])]
            self.judge(shape, dict(rows), free)

    def test_as_many_frames_and_fewer(self):
        for told in SMALL:
            shape = Shape(*told)
            wanted = {leaf: 'rw' for leaf in range(shape.leaves())}
            self.assertIsNotNone(self.judge(shape, wanted, list(range(5, 5 + shape.leaves()))))
            self.assertIsNone(self.judge(shape, wanted, list(range(5, 4 + shape.leaves()))))

    def test_bent_evidence(self):
        shape, wanted, free = Shape(2, 3, 2), {leaf: 'r' for leaf in (0, 1, 2, 3, 4, 5, 7)}, list(range(2, 13))
        good = self.judge(shape, wanted, free)
        self.assertEqual(good.numbers, [3, 1])
        for leaf, pair in ((0, (2, 'r')), (0, (good.layout[1][0], 'r')), (0, (1, 'r')), (0, (13, 'r')), (7, (good.layout[7][0], 'rw')),
                           (6, (12, 'r')), (8, (12, 'r')), (7, (good.layout[0][0], 'r')), (7, (-1, 'r')), (7, (10 ** 30, 'r'))):
            bent = copy.deepcopy(good)
            bent.layout[leaf] = pair
            self.assertIs(bent.shows(shape, wanted, free), False, (leaf, pair))
        for numbers in ([3], [3, 1, 0], [2, 1], [4, 1], [3, 0], [1, 3], []):
            self.assertIs(Placing(good.layout, numbers).shows(shape, wanted, free), False)
        one_less = {leaf: good.layout[leaf] for leaf in good.layout if leaf != 7}
        self.assertIs(Placing(one_less, good.numbers).shows(shape, wanted, free), False)
        # As many entries by other frames are as good; one more is not.
        for frames, shows in (((4, 5, 6, 7, 8, 9, 12), True), ((8, 9, 10, 11, 4, 5, 3), True), ((4, 5, 8, 9, 10, 11, 12), False),
                              ((2, 3, 4, 5, 6, 7, 8), False), ((4, 5, 6, 7, 9, 10, 8), False), ((8, 9, 10, 11, 2, 3, 2), False)):
            layout = {leaf: (frame, 'r') for leaf, frame in zip(wanted, frames)}
            self.assertIs(Placing(layout, good.numbers).shows(shape, wanted, free), shows, frames)
        for frame in (4, 6, -1, 10 ** 30):
            self.assertIs(Placing({0: (frame, 'r')}, [0, 0]).shows(shape, {0: 'r'}, [5, 7]), False)
        self.assertIs(Placing({0: (7, 'r')}, [0, 0]).shows(shape, {0: 'r'}, [5, 7]), True)
        self.assertIs(Placing({0: (7, 'r'), 2: (7, 'r')}, [0, 0]).shows(shape, {0: 'r', 2: 'r'}, [5, 7]), False)
        self.assertIs(Placing({0: (7, 'r'), 2: (5, 'r')}, [0, 0]).shows(shape, {0: 'r', 2: 'r'}, [5, 7]), True)
        self.assertIs(good.shows(Shape(2, 3, 1), wanted, free), False)
        self.assertIs(good.shows(shape, wanted, []), False)
        self.assertIs(good.shows(shape, {**wanted, 6: 'r'}, free), False)

    def test_as_evidence(self):
        layout, numbers = {0: (1, 'r')}, (0,)
        one = Placing(layout, numbers)
        self.assertTrue(one.layout == layout and one.layout is not layout and one.numbers == [0])
        self.assertEqual(one, Placing({0: (1, 'r')}, [0]))
        for other in (Placing({}, [0]), Placing(layout, []), None):
            self.assertNotEqual(one, other)

    def test_wrong_arguments(self):
        shape = Shape(2, 3, 2)
        for call in (placing, Placing({}, []).shows):
            for wrong in (None, 5, (2, 3, 2), {}):
                with self.assertRaises(BadShape):
                    call(wrong, None, None)
            for wanted in (None, [], (), 5, 'r', [0], {8: 'r'}, {-1: 'r'}, {True: 'r'}, {0.0: 'r'}, {'0': 'r'}, {None: 'r'}, {0: 'w'},
                           {0: None}, {0: 5}, {0: ['r']}, {0: ('r',)}, {0: (0, 'r')}, {0: ''}, {0: 'r', 8: 'r'}):
                with self.assertRaises(BadLayout):
                    call(shape, wanted, [0, 1, 2, 3])
            for free in (None, 5, {}, {0: 1}, 'r', [1, 0], [0, 0], [-1], [10 ** 9 + 1], [True], [0, True], [0.0], ['0'], [None], [0, 2, 1],
                         (3, 2), [(0,)]):
                for wanted in ({}, {0: 'r'}):
                    with self.assertRaises(BadLayout):
                        call(shape, wanted, free)

    def test_arguments_stay(self):
        wanted, free = {5: 'r', 0: 'rw'}, [0, 3, 8]
        found = placing(Shape(2, 3, 2), wanted, free)
        found.layout.clear()
        found.numbers.append(5)
        self.assertEqual((list(wanted.items()), free), ([(5, 'r'), (0, 'rw')], [0, 3, 8]))
        self.assertEqual(sorted(placing(Shape(2, 3, 2), wanted, free).layout), [0, 5])

    def test_large_ones(self):
        start = time.monotonic()
        dice = random.Random(1)
        for told in ((2, 12, 11), (2, 12, 0), (16, 3, 2), (4, 6, 3)):
            shape = Shape(*told)
            wanted = {leaf: dice.choice(['r', 'rw', 'rw', 'rw']) for leaf in range(4096)}
            for free in (list(range(3, 4099)), list(range(100000)), sorted(dice.sample(range(10 ** 9), 5000))):
                found = placing(shape, wanted, free)
                self.assertIs(found.shows(shape, wanted, free), True)
            self.assertEqual(placing(shape, {leaf: 'r' for leaf in range(4096)}, list(range(4096))).numbers,
                             [4096 // shape.width(level) for level in range(1, shape.widest() + 1)])
        self.assertLess(time.monotonic() - start, 30)


if __name__ == '__main__':
    unittest.main()
