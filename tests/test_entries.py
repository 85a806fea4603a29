"""Entries and the books of layouts: [13]."""

import random
import time
import unittest

from twinleaves.entries import Entries, books, entries
from twinleaves.errors import BadLayout, BadShape
from twinleaves.shapes import Shape


def runs_of(shape, level):
    width = shape.fan() ** level
    return [(first, width) for first in range(0, shape.fan() ** shape.levels(), width)]


def can_stand(shape, layout, first, level):
    """Whether an entry can stand for a run, word by word."""
    width = shape.fan() ** level
    leaves = range(first, first + width)
    if level > shape.widest() or first % width or any(leaf not in layout for leaf in leaves):
        return False
    frame = layout[first][0]
    return frame % width == 0 and all(layout[leaf] == (frame + leaf - first, layout[first][1]) for leaf in leaves)


def all_choices(shape, layout, leaves):
    """All ways to choose runs so that each leaf is in just one."""
    if not leaves:
        yield []
        return
    for level in range(shape.widest() + 1):
        first = leaves[0] - leaves[0] % shape.fan() ** level
        run = range(first, first + shape.fan() ** level)
        if can_stand(shape, layout, first, level) and all(leaf in leaves for leaf in run):
            for rest in all_choices(shape, layout, [leaf for leaf in leaves if leaf not in run]):
                yield [(first, level)] + rest


def books_of(shape, layout, runs):
    """The books that a layout needs, with the runs of as few entries as can be."""
    found = {(0, shape.levels())}
    for level in range(1, shape.levels() + 1):
        for first, width in runs_of(shape, level):
            leaves = set(range(first, first + width))
            within = any(leaves <= set(range(one, one + shape.fan() ** under)) for one, under in runs)
            if leaves & set(layout) and not within:
                found.add((first, level))
    return sorted(found)


def drawn_layout(dice, shape):
    """A layout in which many frames stand one behind the other, but for some."""
    leaves, layout = shape.leaves(), {}
    shift, right = 0, 'r'
    for leaf in range(leaves):
        if dice.random() < 0.15:
            shift = dice.choice([0, 1, 2, 4, 3, leaves, 9 * leaves, 16])
        if dice.random() < 0.1:
            right = dice.choice(['r', 'rw'])
        if dice.random() < 0.9:
            layout[leaf] = (leaf + shift, right)
    rows = list(layout.items())
    dice.shuffle(rows)
    return dict(rows)


class EntriesTest(unittest.TestCase):

    def judge(self, shape, layout, runs=None):
        found = entries(shape, layout)
        if runs is not None:
            self.assertEqual(found.runs, runs)
        self.assertEqual(found.runs, sorted(found.runs))
        self.assertEqual(sorted(leaf for first, level in found.runs for leaf in range(first, first + shape.fan() ** level)),
                         sorted(layout))
        self.assertTrue(all(can_stand(shape, layout, first, level) for first, level in found.runs))
        self.assertTrue(len(found.leaves) == len(found.runs) and set(found.leaves) <= set(layout))
        self.assertIs(found.shows(shape, layout), True)
        self.assertEqual(found, entries(shape, dict(sorted(layout.items()))))
        self.assertEqual(books(shape, layout), books_of(shape, layout, found.runs))
        return found

    def test_example(self):
        layout = {leaf: (8 + leaf, 'r') for leaf in range(2, 8)}
        self.judge(Shape(2, 4, 2), layout, [(2, 1), (4, 2)])
        self.assertEqual(books(Shape(2, 4, 2), layout), [(0, 2), (0, 3), (0, 4)])

    def test_layouts(self):
        shape = Shape(2, 3, 2)
        full = {leaf: (16 + leaf, 'r') for leaf in range(8)}
        for layout, runs in (({}, []), (full, [(0, 2), (4, 2)]), ({0: (0, 'r')}, [(0, 0)]), ({7: (7, 'rw')}, [(7, 0)]),
                             ({0: (0, 'r'), 1: (1, 'r')}, [(0, 1)]), ({1: (1, 'r'), 2: (2, 'r')}, [(1, 0), (2, 0)]),
                             ({0: (1, 'r'), 1: (2, 'r')}, [(0, 0), (1, 0)]), ({0: (2, 'r'), 1: (3, 'rw')}, [(0, 0), (1, 0)]),
                             ({0: (2, 'r'), 1: (3, 'r')}, [(0, 1)]), ({0: (2, 'r'), 1: (2, 'r')}, [(0, 0), (1, 0)]),
                             ({0: (3, 'r'), 1: (2, 'r')}, [(0, 0), (1, 0)]),
                             ({0: (0, 'r'), 1: (10 ** 9, 'r')}, [(0, 0), (1, 0)]),
                             ({leaf: (leaf + 2, 'r') for leaf in range(4)}, [(0, 1), (2, 1)]),
                             ({leaf: (leaf + 4, 'r') for leaf in range(4)}, [(0, 2)])):
            self.judge(shape, layout, runs)
        for leaf in range(8):
            half = [(4, 2)] if leaf < 4 else [(0, 2)]
            others = {each: full[each] for each in full if each != leaf}
            self.assertEqual(self.judge(shape, others).runs[-1 if leaf < 4 else 0], half[0])
            self.assertEqual(len(self.judge(shape, others).runs), 3)
            for wrong in ((17 + leaf, 'r'), (16 + leaf, 'rw'), (leaf, 'r')):
                found = self.judge(shape, {**full, leaf: wrong})
                self.assertEqual((len(found.runs), (leaf, 0) in found.runs, half[0] in found.runs), (4, True, True))

    def test_widest(self):
        layout = {leaf: (leaf, 'r') for leaf in range(8)}
        for widest, runs in ((0, [(leaf, 0) for leaf in range(8)]), (1, [(0, 1), (2, 1), (4, 1), (6, 1)]), (2, [(0, 2), (4, 2)])):
            self.judge(Shape(2, 3, widest), layout, runs)
        self.assertEqual(books(Shape(2, 3, 0), layout), [(0, 1), (0, 2), (0, 3), (2, 1), (4, 1), (4, 2), (6, 1)])
        self.assertEqual(books(Shape(2, 3, 1), layout), [(0, 2), (0, 3), (4, 2)])
        self.assertEqual(books(Shape(2, 3, 2), layout), [(0, 3)])
        self.assertEqual([books(Shape(2, 3, 2), {}), books(Shape(16, 1, 0), {})], [[(0, 3)], [(0, 1)]])
        self.assertEqual(books(Shape(16, 1, 0), {3: (4, 'r')}), [(0, 1)])

    def test_all_choices(self):
        for seed in range(300):
            dice = random.Random(seed)
            shape = Shape(*dice.choice([(2, 3, 2), (2, 3, 1), (2, 3, 0), (3, 2, 1), (4, 2, 1), (2, 4, 3), (2, 4, 2)]))
            layout = drawn_layout(dice, shape)
            fewest = min(len(choice) for choice in all_choices(shape, layout, sorted(layout)))
            self.assertEqual(len(self.judge(shape, layout).runs), fewest)

    def test_bent_evidence(self):
        shape, layout = Shape(2, 3, 2), {leaf: (8 + leaf, 'r') for leaf in (0, 1, 2, 3, 4, 5, 7)}
        found = self.judge(shape, layout, [(0, 2), (4, 1), (7, 0)])
        good = found.leaves
        for runs in ([(0, 2), (4, 1)], [(4, 1), (0, 2), (7, 0)], [(0, 2), (4, 1), (6, 0)], [(0, 2), (4, 1), (6, 1)],
                     [(0, 2), (4, 2), (7, 0)], [(0, 1), (4, 1), (7, 0)], [(0, 2), (0, 2), (7, 0)], [(0, 2), (2, 1), (7, 0)],
                     [(1, 2), (4, 1), (7, 0)], [(0, 3), (4, 1), (7, 0)], [(0, 2), (4, -1), (7, 0)], [(-8, 2), (4, 1), (7, 0)],
                     [(0, 2), (4, 10 ** 30), (7, 0)], [(0, 2), (4, 1), (7, 0), (8, 0)], [], [(0, 2), (4, 1), (10 ** 30, 0)]):
            self.assertIs(Entries(runs, good).shows(shape, layout), False, runs)
        for leaves, shows in (([0, 4, 7], True), ([7, 5, 3], True), ([1, 4, 7], True), ([0, 1, 7], False), ([4, 5, 7], False),
                              ([0, 4], False), ([0, 4, 7, 7], False), ([0, 4, 4], False), ([0, 4, 6], False), ([], False),
                              ([0, 4, -1], False), ([0, 4, 8], False), ([0, 4, 10 ** 30], False)):
            self.assertIs(Entries(found.runs, leaves).shows(shape, layout), shows, leaves)
        more = [(0, 1), (2, 1), (4, 1), (7, 0)]
        self.assertIs(Entries(more, [0, 4, 7]).shows(shape, layout), False)
        self.assertIs(Entries(more, [0, 2, 4, 7]).shows(shape, layout), False)
        self.assertIs(Entries(more, [0, 2, 4, 7]).shows(Shape(2, 3, 1), layout), True)
        self.assertIs(found.shows(Shape(2, 3, 1), layout), False)
        self.assertIs(found.shows(Shape(2, 4, 2), layout), True)
        self.assertIs(found.shows(shape, {**layout, 5: (13, 'rw')}), False)

    def test_as_evidence(self):
        runs, leaves = [(0, 0)], [0]
        one = Entries(tuple(runs), tuple(leaves))
        self.assertEqual((one.runs, one.leaves), (runs, leaves))
        self.assertEqual(one, Entries(runs, leaves))
        self.assertTrue(Entries(runs, leaves).runs is not runs and Entries(runs, leaves).leaves is not leaves)
        for other in (Entries([], leaves), Entries(runs, []), None):
            self.assertNotEqual(one, other)

    def test_wrong_arguments(self):
        shape = Shape(2, 3, 2)
        for call in (entries, books, Entries([], []).shows):
            for wrong in (None, 5, (2, 3, 2), [], {}):
                with self.assertRaises(BadShape):
                    call(wrong, None)
            for layout in (None, [], (), 5, 'r', {8: (0, 'r')}, {-1: (0, 'r')}, {True: (0, 'r')}, {False: (0, 'r')},
                           {'0': (0, 'r')}, {0.0: (0, 'r')}, {None: (0, 'r')}, {(0,): (0, 'r')}, {0: [0, 'r']}, {0: (0,)},
                           {0: (0, 'r', 0)}, {0: 5}, {0: None}, {0: (-1, 'r')}, {0: (10 ** 9 + 1, 'r')}, {0: (True, 'r')},
                           {0: (1.0, 'r')}, {0: (0, 'w')}, {0: (0, None)}, {0: (0, ['r'])}, {0: (0, '')}, {0: 'or'},
                           {1: (0, 'r'), 8: (0, 'r')}, {4096: (0, 'r')}):
                with self.assertRaises(BadLayout):
                    call(shape, layout)
        self.assertEqual(entries(shape, {0: (0, 'r'), 7: (10 ** 9, 'rw')}).runs, [(0, 0), (7, 0)])

    def test_arguments_stay(self):
        layout = {5: (1, 'r'), 0: (4, 'rw')}
        found = entries(Shape(2, 3, 2), layout)
        books(Shape(2, 3, 2), layout).append(5)
        found.runs.append(5)
        self.assertEqual(list(layout.items()), [(5, (1, 'r')), (0, (4, 'rw'))])
        self.assertEqual(entries(Shape(2, 3, 2), layout).runs, [(0, 0), (5, 0)])

    def test_large_layouts(self):
        start = time.monotonic()
        for told in ((2, 12, 11), (16, 3, 2), (4, 6, 3)):
            shape = Shape(*told)
            layout = {leaf: (4096 + leaf, 'rw') for leaf in range(4096)}
            found = entries(shape, layout)
            self.assertEqual(len(found.runs), 4096 // shape.width(shape.widest()))
            self.assertIs(found.shows(shape, layout), True)
            layout[4095] = (5, 'rw')
            self.assertIs(entries(shape, layout).shows(shape, layout), True)
            self.assertEqual(books(shape, layout)[0], (0, shape.widest() + 1))
        self.assertLess(time.monotonic() - start, 30)


if __name__ == '__main__':
    unittest.main()
