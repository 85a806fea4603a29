"""Whether scripts go on alike: [5]."""

import unittest

from tests.model import Maker, number_of, standing_of, tuple_of, worlds_of
from twinleaves.errors import BadScript, BadValues
from twinleaves.goings import Parting, parting
from twinleaves.reading import read_script
from twinleaves.scripts import Script, is_step

X, Y = ('input', 'x'), ('input', 'y')


def told(text, leaves=4, cells=1):
    return read_script(f'space {leaves} leaves {cells} cells\n' + text.replace('; ', '\n'))


def shown_behind(script, steps, values):
    """What steps show behind a script, by the model."""
    world = worlds_of(script)[0][-1]
    numbers = []
    for step in steps:
        word = world.do(step)
        if step[0] == 'show':
            numbers.append(number_of(tuple_of(word), values))
    return numbers


def behind(script):
    return standing_of(worlds_of(script)[0][-1])


FRONT = 'file f 2; file g 2; task a; map a 0 1 zero rw; map a 1 1 apart f 0 rw; map a 2 1 common f 1 rw; '

# What stands behind the front in two scripts that show the same, but do not go on alike.
PAIRS = [
    ('', 'task b'), ('task b', 'task c'), ('', 'end a'), ('', 'end a; task a'),
    ('task b', 'task b; map b 3 1 zero r'), ('', 'unmap a 0 1'), ('', 'map a 3 1 zero r'), ('', 'unmap a 1 1'),
    ('cut f 0', 'cut f 0; unmap a 1 1'), ('cut f 0', 'cut f 0; unmap a 2 1'),
    ('', 'guard a 0 1 r'), ('', 'guard a 1 1 r'), ('', 'guard a 2 1 r'), ('cut f 0', 'cut f 0; guard a 1 1 r'),
    ('cut f 0', 'cut f 0; guard a 2 1 r'),
    ('', 'put a 0.0 = 1'), ('put a 0.0 = x', 'put a 0.0 = y'), ('put a 0.0 = x', 'put a 0.0 = 2 x'),
    ('', 'put a 1.0 = a 1.0'), ('', 'put a 1.0 = 4'), ('', 'put a 2.0 = 4'), ('', 'file h 0'), ('file h 0', 'file i 0'),
    ('file h 1', 'file h 2'), ('file h 0', 'file h 64'), ('file h 63', 'file h 64'), ('', 'cut f 1'), ('', 'cut f 3'),
    ('', 'cut g 1'), ('', 'cut g 0; cut g 2'), ('', 'cut g 1; cut g 2'),
    ('unmap a 1 1; map a 1 1 apart f 1 rw', ''), ('unmap a 1 1; map a 1 1 apart g 0 rw', ''),
    ('unmap a 1 1; map a 1 1 common f 0 rw', ''), ('unmap a 2 1; map a 2 1 apart f 1 rw', ''),
    ('unmap a 2 1; map a 2 1 common f 0 rw', ''), ('unmap a 2 1; map a 2 1 common f 63 rw', ''),
    ('cut f 0; unmap a 1 1; map a 1 1 common f 0 rw', 'cut f 0'),
    ('cut f 0; unmap a 1 1; map a 1 1 apart f 63 rw', 'cut f 0'),
    ('cut f 0; cut g 0; unmap a 1 1; map a 1 1 apart g 0 rw', 'cut f 0; cut g 0'),
    ('unmap a 0 1; map a 0 1 apart f 9 rw', ''), ('unmap a 1 1; map a 1 1 common f 0 r', 'guard a 1 1 r'),
    ('unmap a 1 1; map a 1 1 common f 0 r', ''),
]


class GoingsTest(unittest.TestCase):

    def judge(self, one, other):
        found = parting(one, other)
        self.assertEqual(found is None, behind(one) == behind(other), (one.steps, other.steps))
        self.assertEqual(found, parting(one, other))
        if found is not None:
            self.assertTrue(all(is_step(step) for step in found.steps), found.steps)
            self.assertNotEqual(shown_behind(one, found.steps, found.given),
                                shown_behind(other, found.steps, found.given), (one.steps, other.steps, found.steps))
            self.assertIs(found.shows(one, other), True)
            self.assertIs(found.shows(one, one), False)
            self.assertIs(Parting([], found.given).shows(one, other), False)
        return found

    def test_example(self):
        head = 'task a; map a 0 2 zero rw; put a 0.0 = x; '
        one, other = told(head + 'show a 0.0'), told(head + 'put a 1.0 = 1; show a 0.0')
        self.assertIsNotNone(self.judge(one, other))

    def test_pairs(self):
        for ours, theirs in PAIRS:
            for leaves, cells in ((4, 1), (4, 2), (64, 4)):
                one, other = told(FRONT + ours, leaves, cells), told(FRONT + theirs, leaves, cells)
                self.assertIsNotNone(self.judge(one, other))
                self.assertIsNotNone(self.judge(other, one))

    def test_one_leaf(self):
        front = 'file f 2; task a; map a 0 1 '
        rows = ['zero rw', 'zero r', 'apart f 0 r', 'apart f 0 rw', 'common f 0 r', 'common f 0 rw', 'common f 1 r',
                'apart f 2 r', 'common f 2 r', 'common f 63 rw', 'apart f 63 rw']
        for ours in rows:
            for theirs in rows:
                self.judge(told(front + ours, 1), told(front + theirs, 1))

    def test_other_cells(self):
        front = 'file f 2; task a; map a 0 1 zero rw; map a 1 1 common f 1 rw; '
        for ours, theirs in (('put a 0.1 = x', ''), ('put a 1.2 = x', ''), ('put a 1.3 = x', 'put a 1.3 = x + 1')):
            self.assertIsNotNone(self.judge(told(front + ours, 4, 4), told(front + theirs, 4, 4)))

    def test_going_on_alike(self):
        for ours, theirs in (('', ''), ('show a 0.0', ''), ('show a 0.0; show a 1.0', 'show a 1.0'),
                             ('put a 0.0 = x; put a 0.0 = 0', ''), ('task b; end b', ''), ('task a', 'end z'),
                             ('put a 0.0 = x; put a 3.0 = 1', 'put a 0.0 = 3 x - 2 x'),
                             ('map a 3 1 zero r; unmap a 3 1', ''), ('move a 0 1 to 3; move a 3 1 to 0', ''),
                             ('fork a b; end a; fork b a; end b', ''), ('cut f 5; cut f 2', ''),
                             ('put a 2.0 = 1; cut f 1', 'cut f 1')):
            self.assertIsNone(self.judge(told(FRONT + ours), told(FRONT + theirs)), ours)

    def test_against_the_model(self):
        count = 0
        for seed in range(900):
            leaves, cells = 1 + seed % 3, 1 + seed % 2
            maker = Maker(seed, leaves, cells)
            steps = maker.steps(4 + seed % 16)
            at = maker.number(0, len(steps) - 1)
            other = Script(leaves, cells, steps[:at] + steps[at + 1:])
            if seed % 4 == 0:
                other = Script(leaves, cells, Maker(seed + 1, leaves, cells).steps(4 + seed % 16))
            count += self.judge(Script(leaves, cells, steps), other) is None
        self.assertGreater(count, 100)
        self.assertLess(count, 800)

    def test_long_scripts(self):
        tasks = [a + b for a in 'abcdefghijkl' for b in 'abcdefghijklmnopqrstuvwxyz']
        steps = [('task', name) for name in 'abcdefghijklmnopqrstuvwxyz'] + [('task', name) for name in tasks]
        one = Script(1, 1, steps[:300])
        other = Script(1, 1, steps[:299] + [('file', 'f', 0)])
        self.judge(one, other)
        self.judge(one, Script(1, 1, steps[:300][::-1]))
        one = Script(1, 1, [('file', 'f', 1)] + steps[:299])
        self.judge(one, Script(1, 1, [('file', 'f', 2)] + steps[:299]))


class PartingTest(unittest.TestCase):

    def test_as_evidence(self):
        steps, given = [('show', 'a', 0, 0)], {X: 1}
        one = Parting(tuple(steps), given)
        given[X] = 2
        self.assertEqual((one.steps, one.given), ([('show', 'a', 0, 0)], {X: 1}))
        self.assertIs(type(one.steps), list)
        self.assertIsNot(Parting(steps, {}).steps, steps)
        self.assertEqual(one, Parting(steps, {X: 1}))
        for other in (Parting([], {X: 1}), Parting(steps, {}), None, (steps, {X: 1})):
            self.assertNotEqual(one, other)

    def test_shows(self):
        one, other = told('task a; map a 0 1 zero rw; put a 0.0 = x'), told('task a; map a 0 1 zero rw')
        show = ('show', 'a', 0, 0)
        for steps, given, shows in (([show], {X: 1}, True), ([show], {X: 0}, False), ([show], {Y: 1}, False),
                                    ([], {X: 1}, False), ([('end', 'a')], {X: 1}, False),
                                    ([('end', 'a'), show], {X: 1}, False), ([show, show], {X: 1}, True),
                                    ([('put', 'a', 0, 0, (('number', 1),)), show], {X: 2}, False),
                                    ([('fork', 'a', 'b'), ('show', 'b', 0, 0)], {X: -2}, True),
                                    ([show] * 301, {X: 1}, True)):
            self.assertIs(Parting(steps, given).shows(one, other), shows, steps)
        found = Parting([show], {X: 1})
        found.steps = [('show', 'a', 1, 0)]
        self.assertFalse(found.shows(one, other))

    def test_only_shows_behind_count(self):
        one, other = told('show a 0.0'), told('')
        self.assertIsNone(parting(one, other))
        self.assertFalse(Parting([('show', 'a', 0, 0)], {}).shows(one, other))

    def test_wrong_values(self):
        one = told('task a')
        for given in (None, [], {5: 1}, {X: True}, {('input', 'X'): 1}):
            with self.assertRaises(BadValues):
                Parting([], given).shows(one, one)

    def test_no_scripts(self):
        one = told('task a')
        for call in (parting, Parting([], {}).shows, Parting([], None).shows):
            for pair in ((None, one), (one, 5), ('', ''), (one, told('task a', 5)), (told('task a', 4, 2), one)):
                with self.assertRaises(BadScript) as caught:
                    call(*pair)
                self.assertIsNone(caught.exception.place)


if __name__ == '__main__':
    unittest.main()
