"""Frames: [11], and [9] for those that are needed."""

import time
import unittest

from tests.model import Maker, knotted_script, number_of, sharing_script, worlds_of
from tests.model_more import needed_frames_of, own_contents
from twinleaves.errors import BadScript, BadValues
from twinleaves.frames import Frames, least_frames, needed_frames
from twinleaves.reading import read_script
from twinleaves.scripts import Script
from twinleaves.spreading import values_apart

X, Y = ('input', 'x'), ('input', 'y')
FRONT = 'task a; map a 0 4 zero rw; '


def told(text, leaves=4, cells=1):
    return read_script(f'space {leaves} leaves {cells} cells\n' + text.replace('; ', '\n'))


class FramesTest(unittest.TestCase):

    def judge(self, script, number=None):
        found = least_frames(script)
        contents = own_contents(worlds_of(script)[0][-1])
        self.assertEqual(found.number, len(contents) if number is None else number)
        self.assertEqual(found.number, len(contents))
        self.assertEqual(len(found.leaves), found.number)
        self.assertEqual(list(found.given), sorted(found.given))
        numbers = set()
        for pair in found.leaves:
            rows = [row for row, leaves in contents.items() if pair in leaves]
            self.assertEqual(len(rows), 1, pair)
            numbers.add(tuple(number_of(form, found.given) for form in rows[0]))
        self.assertEqual(len(numbers), found.number)
        self.assertFalse((0,) * script.cells in numbers)
        self.assertIs(found.shows(script), True)
        self.assertEqual(found, least_frames(script))
        return found

    def test_scripts(self):
        for text, number in (('', 0), ('task a', 0), (FRONT, 0), (FRONT + 'put a 0.0 = 0', 0),
                             (FRONT + 'put a 0.0 = 1; put a 1.0 = 1', 1), (FRONT + 'put a 0.0 = x; put a 1.0 = 1', 2),
                             (FRONT + 'put a 0.0 = x; put a 1.0 = 2 x; put a 2.0 = - x; put a 3.0 = 3', 4),
                             (FRONT + 'put a 0.0 = x; fork a b; put b 0.0 = x + y - y', 1),
                             (FRONT + 'put a 0.0 = x; fork a b; put b 0.0 = x + y', 2),
                             (FRONT + 'put a 0.0 = x; fork a b; end a; put b 1.0 = 3; unmap b 0 1', 1),
                             (FRONT + 'put a 0.0 = x; put a 1.0 = y; put a 2.0 = x + y; put a 3.0 = x - y', 4)):
            self.judge(told(text), number)

    def test_own_leaves_only(self):
        front = 'file f 3; task a; map a 0 1 apart f 0 rw; map a 1 1 common f 1 rw; map a 2 1 apart f 2 rw; '
        self.judge(told(front), 0)
        self.judge(told(front + 'put a 0.0 = a 0.0; put a 1.0 = 7; put a 2.0 = a 0.0'), 1)
        self.judge(told(front + 'put a 0.0 = a 0.0; put a 1.0 = 7; put a 2.0 = a 1.0'), 2)
        self.judge(told(front + 'put a 2.0 = 0; cut f 0'), 0)

    def test_fewer_for_some_values(self):
        # Alike by different puts; alike by forms and not by values; unlike by forms, but alike for many values.
        script = told(FRONT + 'put a 0.0 = x; put a 1.0 = x + 1; put a 2.0 = 2 x; put a 3.0 = a 0.0 + a 0.0')
        found = self.judge(script, 3)
        for given, shows in (({}, False), ({X: 1}, False), ({X: 2}, True), ({X: -1}, False), ({X: -3}, True),
                             ({X: 2, Y: 9}, True), ({Y: 2}, False)):
            self.assertIs(Frames(3, found.leaves, given).shows(script), shows, given)

    def test_cells(self):
        script = told(FRONT + 'put a 0.0 = x; put a 1.1 = x; put a 2.0 = x; put a 2.1 = y; put a 3.1 = 0', 4, 2)
        found = self.judge(script, 3)
        self.assertIs(Frames(3, found.leaves, {X: 1}).shows(script), False)
        self.assertIs(Frames(3, found.leaves, {X: 1, Y: 1}).shows(script), True)
        self.assertIs(Frames(3, found.leaves, {Y: 1}).shows(script), False)

    def test_against_the_model(self):
        for seed in range(300):
            leaves, cells = 1 + seed % 4, 1 + seed % 3
            maker = Maker(seed, leaves, cells)
            kinds = ['put', 'put', 'put', 'fork', 'map', 'task', 'end', 'move', 'unmap', 'cut', 'file'][:4 + seed % 8]
            self.judge(Script(leaves, cells, maker.steps(seed % 60, kinds)))
        for seed in range(100):
            self.judge(knotted_script(Script, seed))

    def test_values_that_must_be_far(self):
        # For each value below 225, some contents are alike.
        front = [('task', 'a'), ('map', 'a', 0, 30, ('zero',), 'rw')]
        puts = [('put', 'a', at, 0, (('input', 'x', 1), ('number', -at))) for at in range(15)]
        puts += [('put', 'a', 15 + at, 0, (('number', 15 * at),)) for at in range(1, 15)]
        found = self.judge(Script(30, 1, front + puts), 29)
        self.assertGreater(found.given[X], 210)

    def test_powers_that_do_not_do(self):
        front = [('task', 'a'), ('map', 'a', 0, 20, ('zero',), 'rw'), ('put', 'a', 0, 0, (('input', 'x', 1),))]
        puts = [('put', 'a', 1 + at, 0, (('number', 2 ** at),)) for at in range(19)]
        self.judge(Script(20, 1, front + puts), 20)

    def test_values_apart(self):
        self.assertEqual(values_apart([]), {})
        self.assertEqual(values_apart([((0, ()),)]), {})
        self.assertEqual(list(values_apart([((0, ()),), ((0, ((X, 3),)),), ((0, ((Y, 3),)),)])), [X, Y])

    def test_bent_evidence(self):
        script = told(FRONT + 'put a 0.0 = x; put a 1.0 = 2; put a 3.0 = 2')
        found = least_frames(script)
        self.assertEqual((found.number, found.leaves), (2, [('a', 0), ('a', 1)]))
        good = {X: 1}
        for leaves, shows in (([('a', 0), ('a', 1)], True), ([('a', 1), ('a', 0)], True), ([('a', 3), ('a', 0)], True),
                              ([('a', 0)], False), ([], False), ([('a', 0), ('a', 0)], False),
                              ([('a', 1), ('a', 3)], False), ([('a', 0), ('a', 2)], False),
                              ([('a', 0), ('a', 1), ('a', 3)], False), ([('a', 0), ('b', 1)], False),
                              ([('a', 0), ('a', 4)], False), ([('a', 0), ('a', -1)], False),
                              ([('a', 0), ('a', 10 ** 30)], False)):
            self.assertIs(Frames(2, leaves, good).shows(script), shows, leaves)
        for number in (0, 1, 3, -2):
            self.assertIs(Frames(number, found.leaves, good).shows(script), False)
        self.assertIs(Frames(1, [('a', 0)], good).shows(script), False)
        self.assertIs(Frames(3, [('a', 0), ('a', 1), ('a', 3)], good).shows(script), False)
        for given in ({}, {X: 2}, {Y: 1}):
            self.assertIs(Frames(2, found.leaves, given).shows(script), False)
        script = told('file f 1; task a; map a 0 1 apart f 0 rw; map a 1 1 zero rw; put a 1.0 = 1')
        self.assertIs(Frames(1, [('a', 1)], {}).shows(script), True)
        self.assertIs(Frames(1, [('a', 0)], {('file', 'f', 0, 0): 1}).shows(script), False)
        self.assertIs(Frames(0, [], {}).shows(script), False)
        self.assertIs(Frames(0, [], {}).shows(told('')), True)

    def test_as_evidence(self):
        leaves, given = [('a', 0)], {X: 1}
        one = Frames(1, tuple(leaves), given)
        leaves.append(5)
        given[X] = 2
        self.assertEqual((one.number, one.leaves, one.given), (1, [('a', 0)], {X: 1}))
        self.assertIs(type(one.leaves), list)
        self.assertEqual(one, Frames(1, [('a', 0)], {X: 1}))
        for other in (Frames(2, [('a', 0)], {X: 1}), Frames(1, [], {X: 1}), Frames(1, [('a', 0)], {}), None):
            self.assertNotEqual(one, other)

    def test_wrong_values(self):
        for given in (None, [], {5: 1}, {X: True}, {('input', 'X'): 1}):
            with self.assertRaises(BadValues):
                Frames(0, [], given).shows(told(''))

    def test_no_script(self):
        for call in (least_frames, needed_frames, Frames(0, [], {}).shows, Frames(0, [], None).shows):
            for wrong in (None, 5, [], 'space 1 leaves 1 cells'):
                with self.assertRaises(BadScript) as caught:
                    call(wrong)
                self.assertIsNone(caught.exception.place)

    def test_long_scripts(self):
        start = time.monotonic()
        front = [('file', 'f', 64), ('task', 'a'), ('map', 'a', 0, 64, ('apart', 'f', 0), 'rw')]
        puts = []
        for at in range(297):
            terms = [('cell', 'a', (at * 7 + k * k) % 64, (at + k) % 4, 1 + k) for k in range(8)]
            puts.append(('put', 'a', at * 5 % 64, at % 4, tuple(terms)))
        script = Script(64, 4, front + puts)
        found = least_frames(script)
        self.assertEqual((found.number, found.shows(script)), (64, True))
        self.assertEqual(needed_frames(script), [0] * 300)
        self.assertLess(time.monotonic() - start, 30)


class NeededFramesTest(unittest.TestCase):

    def test_scripts(self):
        for text, numbers in (('', []), ('task a; map a 0 1 zero rw; put a 0.0 = 1', [0, 0, 0]),
                              ('task a; map a 0 1 zero rw; put a 0.0 = 1; show a 0.0', [0, 0, 1, 0]),
                              ('task a; map a 0 2 zero rw; put a 0.0 = 1; put a 1.0 = 1; show a 0.0; show a 1.0',
                               [0, 0, 1, 1, 1, 0]),
                              ('task a; map a 0 2 zero rw; put a 0.0 = 1; put a 1.0 = x; show a 0.0; show a 1.0',
                               [0, 0, 1, 2, 1, 0]),
                              ('task a; map a 0 1 zero rw; put a 0.0 = x; fork a b; put b 0.0 = 1; show b 0.0',
                               [0, 0, 0, 0, 1, 0]),
                              ('file f 1; task a; map a 0 1 common f 0 rw; put a 0.0 = 1; show a 0.0', [0] * 5),
                              ('file f 1; task a; map a 0 1 apart f 0 rw; put a 0.0 = 1; show a 0.0', [0, 0, 0, 1, 0])):
            self.assertEqual(needed_frames(told(text)), numbers, text)

    def test_against_the_model(self):
        for seed in range(200):
            maker = Maker(seed, 1 + seed % 3, 1 + seed % 3)
            script = Script(maker.leaves, maker.cells, maker.steps(seed % 40))
            self.assertEqual(needed_frames(script), needed_frames_of(script))
            script = sharing_script(Script, seed)
            self.assertEqual(needed_frames(script), needed_frames_of(script))


if __name__ == '__main__':
    unittest.main()
