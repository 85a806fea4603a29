"""Books: [8]."""

import time
import unittest

from tests.model import Maker, worlds_of
from tests.model_more import books_of
from twinleaves.errors import BadNumber, BadScript
from twinleaves.reading import read_script
from twinleaves.scripts import Script
from twinleaves.shelves import books, most_books


def told(text, leaves=8, cells=1):
    return read_script(f'space {leaves} leaves {cells} cells\n' + text.replace('; ', '\n'))


class ShelvesTest(unittest.TestCase):

    def judge(self, text, fan, levels, found, most, leaves=8):
        script = told(text, leaves)
        self.assertEqual(books(script, fan, levels), found, text)
        self.assertEqual(list(books(script, fan, levels)), sorted(found))
        self.assertEqual(most_books(script, fan, levels), most, text)

    def test_example(self):
        self.judge('task a; map a 0 3 zero r; fork a b; unmap b 0 2', 2, 3, {'a': [1, 1, 2], 'b': [1, 1, 1]}, 8)

    def test_books(self):
        self.judge('', 2, 3, {}, 0)
        self.judge('task b; task a', 2, 3, {'a': [0, 0, 0], 'b': [0, 0, 0]}, 0)
        self.judge('task a; map a 0 8 zero r', 2, 3, {'a': [1, 2, 4]}, 7)
        self.judge('task a; map a 0 8 zero r', 8, 1, {'a': [1]}, 1)
        self.judge('task a; map a 7 1 zero r; map a 0 1 zero r', 2, 3, {'a': [1, 2, 2]}, 5)
        self.judge('task a; map a 3 2 zero r; end a', 2, 3, {}, 5)
        self.judge('task a; map a 7 1 zero r; move a 7 1 to 0; map a 1 1 zero r', 2, 3, {'a': [1, 1, 1]}, 3)
        self.judge('file f 1; task a; map a 1 1 apart f 0 r; map a 3 1 common f 9 r', 2, 3, {'a': [1, 1, 2]}, 4)
        self.judge('task a; map a 5 1 zero r; map a 15 1 zero r', 4, 2, {'a': [1, 2]}, 3, 16)
        self.judge('task a; map a 0 64 zero r', 2, 6, {'a': [1, 2, 4, 8, 16, 32]}, 63, 64)
        self.judge('task a; map a 0 64 zero r; fork a b; unmap a 1 63', 8, 2, {'a': [1, 1], 'b': [1, 8]}, 18, 64)
        self.judge('task a; map a 0 1 zero r', 64, 1, {'a': [1]}, 1, 64)

    def test_greatest_behind_any_step(self):
        text = 'task a; map a 0 8 zero r; fork a b; end a; end b; task a; map a 0 1 zero r'
        self.judge(text, 2, 3, {'a': [1, 1, 1]}, 14)

    def test_a_file_named_like_a_task(self):
        self.judge('task a; map a 0 1 zero r; file a 3; cut b 2; task b; file b 1; end b', 2, 3, {'a': [1, 1, 1]}, 3)

    def test_against_the_model(self):
        for seed in range(250):
            leaves, fan, levels = [(8, 2, 3), (4, 2, 2), (4, 4, 1), (9, 3, 2), (16, 2, 4), (27, 3, 3)][seed % 6]
            maker = Maker(seed, leaves, 1)
            kinds = ['map', 'map', 'unmap', 'fork', 'end', 'move', 'task', 'guard', 'put', 'cut', 'file']
            script = Script(leaves, 1, maker.steps(seed % 40, kinds))
            worlds, _ = worlds_of(script)
            self.assertEqual(books(script, fan, levels), books_of(worlds[-1], fan, levels))
            sums = [sum(map(sum, books_of(world, fan, levels).values())) for world in worlds[1:]]
            self.assertEqual(most_books(script, fan, levels), max(sums, default=0))

    def test_wrong_numbers(self):
        script = told('task a')
        for call in (books, most_books):
            for fan, levels in ((1, 3), (0, 3), (-2, 3), (True, 3), (2.0, 3), ('2', 3), (None, 3), (2, 0), (2, 7),
                                (2, -3), (2, True), (2, '3'), (2, None), (2, 2), (2, 4), (3, 2), (8, 2), (4, 1),
                                (7, 1), (10 ** 400, 6), (2, 10 ** 400)):
                with self.assertRaises(BadNumber):
                    call(script, fan, levels)
            with self.assertRaises(BadNumber):
                call(told('task a', 1), 2, 1)
            # 2 to the power of 7 leaves are more than a space has, and 1 to any power is no fan.
            with self.assertRaises(BadNumber):
                call(told('task a', 1), 1, 1)
            with self.assertRaises(BadNumber):
                call(told('task a', 64), 2, 7)

    def test_no_script_is_told_first(self):
        for call in (books, most_books):
            for wrong in (None, 5, [], 'space 1 leaves 1 cells'):
                with self.assertRaises(BadScript) as caught:
                    call(wrong, 0, 0)
                self.assertIsNone(caught.exception.place)

    def test_long_script(self):
        start = time.monotonic()
        names = [a + b for a in 'abcdefghijkl' for b in 'abcdefghijklmnopqrstuvwxyz']
        steps = [('task', 'z'), ('map', 'z', 0, 64, ('zero',), 'rw')] + [('fork', 'z', name) for name in names[:298]]
        self.assertEqual(most_books(Script(64, 4, steps), 2, 6), 299 * 63)
        self.assertEqual(len(books(Script(64, 4, steps), 4, 3)), 299)
        self.assertLess(time.monotonic() - start, 20)


if __name__ == '__main__':
    unittest.main()
