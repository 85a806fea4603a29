"""Shapes: [13]."""

import unittest

from twinleaves.errors import BadShape
from twinleaves.shapes import Shape


class ShapeTest(unittest.TestCase):

    def test_numbers(self):
        for fan, levels, widest, leaves in ((2, 1, 0, 2), (2, 12, 11, 4096), (16, 3, 2, 4096), (16, 1, 0, 16), (3, 7, 0, 2187),
                                            (4, 6, 5, 4096), (8, 4, 1, 4096), (15, 3, 2, 3375), (5, 5, 4, 3125)):
            one = Shape(fan, levels, widest)
            self.assertEqual((one.fan(), one.levels(), one.widest(), one.leaves()), (fan, levels, widest, leaves))
            self.assertEqual([one.width(level) for level in range(levels + 1)], [fan ** level for level in range(levels + 1)])

    def test_like_ones(self):
        self.assertEqual(Shape(2, 3, 1), Shape(2, 3, 1))
        for other in (Shape(3, 3, 1), Shape(2, 4, 1), Shape(2, 3, 2), None, (2, 3, 1)):
            self.assertNotEqual(Shape(2, 3, 1), other)

    def test_no_shapes(self):
        for told in ((1, 2, 0), (17, 2, 0), (0, 2, 0), (-2, 2, 0), (2, 0, 0), (2, 13, 0), (2, 3, 3), (2, 3, 4), (2, 3, -1),
                     (2, 1, 1), (True, 1, 0), (2, True, 0), (2, 2, True), (2, 2, False), (2.0, 2, 0), ('2', 2, 0), (2, '2', 0),
                     (2, 2, None), (None, 2, 0), (2, None, 0), (16, 4, 0), (3, 8, 0), (5, 6, 0), (13, 4, 0), (16, 12, 0),
                     (10 ** 30, 1, 0), (2, 10 ** 30, 0), ([2], 2, 0)):
            with self.assertRaises(BadShape):
                Shape(*told)


if __name__ == '__main__':
    unittest.main()
