"""Books held in common: [13]."""

import copy
import random
import time
import unittest

from tests.test_entries import can_stand, drawn_layout
from twinleaves.errors import BadLayout, BadShape
from twinleaves.shapes import Shape
from twinleaves.sharing import Shared, shared, unshared

SMALL = [(2, 3, 2), (2, 3, 1), (2, 3, 0), (2, 2, 1), (3, 2, 1), (4, 2, 1), (2, 4, 3), (2, 4, 2), (3, 1, 0), (2, 1, 0)]


def books_needed(shape, layouts):
    """How many books differ, by what they tell of their runs: all but what entries stand for."""
    found = set()
    for layout in layouts:
        for level in range(1, shape.levels() + 1):
            width = shape.width(level)
            for first in range(0, shape.leaves(), width):
                told = tuple((leaf - first, layout[leaf]) for leaf in range(first, first + width) if leaf in layout)
                if level == shape.levels() or told and not can_stand(shape, layout, first, level):
                    found.add((level, told))
    return len(found)


class SharingTest(unittest.TestCase):

    def judge(self, shape, layouts, many=None):
        found = shared(shape, layouts)
        self.assertEqual(found, shared(shape, tuple(dict(sorted(layout.items())) for layout in layouts)))
        told = unshared(shape, found)
        self.assertEqual(told, list(layouts))
        self.assertTrue(all(list(layout) == sorted(layout) for layout in told))
        self.assertEqual(len(found.books), books_needed(shape, layouts))
        if many is not None:
            self.assertEqual(len(found.books), many)
        self.assertEqual(len(set(found.books)), len(found.books))
        for level, row in found.books:
            self.assertEqual(len(row), shape.fan())
            for part in row:
                if isinstance(part, int):
                    self.assertEqual(found.books[part][0], level - 1)
                elif part is not None:
                    self.assertLessEqual(level - 1, shape.widest())
                    self.assertEqual(part[0] % shape.width(level - 1), 0)
                self.assertFalse(isinstance(part, int) and not any(entry is not None for entry in found.books[part][1]))
        self.assertEqual(len(found.roots), len(layouts))
        self.assertTrue(all(found.books[root][0] == shape.levels() for root in found.roots))
        for layout, root in zip(layouts, found.roots):
            self.judge_entries(shape, layout, found.books, root, 0)
        return found

    def judge_entries(self, shape, layout, books, number, first):
        """Just the runs for which entries can stand are told by entries."""
        level, row = books[number]
        for at, part in enumerate(row):
            start = first + at * shape.width(level - 1)
            stands = start in layout and can_stand(shape, layout, start, level - 1)
            self.assertEqual(isinstance(part, tuple), stands)
            if stands:
                self.assertEqual(part, layout[start])
            elif part is not None:
                self.judge_entries(shape, layout, books, part, start)

    def test_example(self):
        one = {0: (5, 'r'), 4: (5, 'r'), 7: (1, 'rw')}
        found = self.judge(Shape(2, 3, 1), [one, {0: (5, 'r'), 4: (5, 'r')}], 6)
        self.assertEqual(unshared(Shape(2, 3, 1), found)[0], one)

    def test_layouts(self):
        shape = Shape(2, 3, 2)
        full = {leaf: (8 + leaf, 'r') for leaf in range(8)}
        for layouts, many in (([], 0), ([{}], 1), ([{}, {}], 1), ([full], 1), ([full, full], 1), ([full, {}], 2), ([{0: (0, 'r')}], 3),
                              ([{leaf: (0, 'r')} for leaf in range(8)], 2 + 4 + 8), ([{0: (0, 'r')}, {0: (0, 'rw')}], 6),
                              ([{0: (0, 'r')}, {0: (1, 'r')}], 6), ([{0: (0, 'r'), 2: (0, 'r')}], 3), ([{0: (0, 'r'), 4: (0, 'r')}], 3),
                              ([{leaf: (7, 'rw') for leaf in range(8)}], 3), ([{leaf: (leaf + 1, 'rw') for leaf in range(8)}], 7),
                              ([{leaf: (leaf + 2, 'rw') for leaf in range(8)}], 3), ([{leaf: (leaf + 4, 'rw') for leaf in range(8)}], 1),
                              ([full, {**full, 0: (1, 'r')}], 4), ([full, {leaf: full[leaf] for leaf in range(4)}], 2)):
            self.judge(shape, layouts, many)
        self.judge(Shape(2, 3, 0), [full], 7)
        self.judge(Shape(2, 3, 1), [full], 3)
        self.assertEqual(shared(Shape(2, 1, 0), [{1: (3, 'r')}, {}]), Shared([(1, (None, (3, 'r'))), (1, (None, None))], [0, 1]))

    def test_drawn_layouts(self):
        for seed in range(300):
            dice = random.Random(seed)
            shape = Shape(*dice.choice(SMALL))
            layouts = [drawn_layout(dice, shape) for _ in range(dice.randint(0, 4))]
            for layout in list(layouts):
                # One that is alike in part, and one that is the same.
                other = {leaf: pair for leaf, pair in layout.items() if leaf < shape.leaves() // 2 or dice.random() < 0.7}
                layouts += [other, dict(layout)] if dice.random() < 0.5 else [other]
            self.judge(shape, layouts)

    def test_as_evidence(self):
        one = Shared(((1, (None, None)),), (0,))
        self.assertEqual((one.books, one.roots), ([(1, (None, None))], [0]))
        self.assertEqual(one, Shared([(1, (None, None))], [0]))
        for other in (Shared([], [0]), Shared([(1, (None, None))], []), None):
            self.assertNotEqual(one, other)
        self.assertEqual(unshared(Shape(2, 1, 0), one), [{}])
        # Whatever its numbers are, it tells what its books tell.
        books = [(1, ((4, 'r'), None)), (1, (None, (5, 'rw'))), (2, (0, 1)), (2, ((2, 'r'), None))]
        self.assertEqual(unshared(Shape(2, 2, 1), Shared(books, [2, 3, 2])), [{0: (4, 'r'), 3: (5, 'rw')}, {0: (2, 'r'), 1: (3, 'r')},
                                                                              {0: (4, 'r'), 3: (5, 'rw')}])

    def test_wrong_arguments(self):
        for wrong in (None, 5, (2, 3, 2), {}):
            with self.assertRaises(BadShape):
                shared(wrong, None)
            with self.assertRaises(BadShape):
                unshared(wrong, Shared([], []))
        shape = Shape(2, 3, 2)
        for layouts in (None, 5, {}, {0: {}}, 'r', [None], [{}, None], [[]], [{8: (0, 'r')}], [{}, {0: (0, 'w')}], [{True: (0, 'r')}],
                        [{0: 5}], ({}, {-1: (0, 'r')}), [{0: (10 ** 9 + 1, 'r')}]):
            with self.assertRaises(BadLayout):
                shared(shape, layouts)

    def test_arguments_stay(self):
        layouts = [{5: (1, 'r'), 0: (4, 'rw')}]
        before = copy.deepcopy(layouts)
        found = shared(Shape(2, 3, 2), layouts)
        unshared(Shape(2, 3, 2), found)[0].clear()
        found.books.clear()
        found.roots.append(7)
        self.assertEqual((layouts, list(layouts[0])), (before, [5, 0]))
        self.assertEqual(unshared(Shape(2, 3, 2), shared(Shape(2, 3, 2), layouts)), before)

    def test_large_layouts(self):
        start = time.monotonic()
        for told in ((2, 12, 11), (16, 3, 2), (4, 6, 3), (2, 12, 0)):
            shape = Shape(*told)
            dice = random.Random(5)
            layouts = [drawn_layout(dice, shape) for _ in range(10)] + [{leaf: (4096 + leaf, 'rw') for leaf in range(4096)}]
            found = shared(shape, layouts)
            self.assertEqual(unshared(shape, found), layouts)
        self.assertLess(time.monotonic() - start, 30)


if __name__ == '__main__':
    unittest.main()
