"""Wanted leaves and least copies: [9] and [10]."""

import random
import time
import unittest

from tests.model import Maker, fewest_copies, joinable_of, knotted_script, marked_number, sharing_script, store_of, \
    wanted_of
from twinleaves.copies import Copies, least_copies, numbered
from twinleaves.errors import BadScript, TooLarge
from twinleaves.marking import marked_number as number_of_marks
from twinleaves.reading import read_script
from twinleaves.scripts import Script
from twinleaves.stores import Store
from twinleaves.sums import Sums
from twinleaves.wanted import Story, wanted_leaves

ZERO = (0, ())
X = (0, ((('input', 'x'), 1),))
FRONT = 'task a; map a 0 1 zero rw; put a 0.0 = x; fork a b; '


def told(text, leaves=4, cells=2):
    return read_script(f'space {leaves} leaves {cells} cells\n' + text.replace('; ', '\n'))


def wanted(text, leaves=4, cells=2):
    return [sorted(row) for row in wanted_leaves(Story(told(text, leaves, cells), Sums()))]


class WantedTest(unittest.TestCase):

    def test_shows(self):
        self.assertEqual(wanted('task a; map a 0 1 zero r; show a 0.0; end a'), [[], [], [('task', 'a', 0)], [], []])
        self.assertEqual(wanted('task a; show a 0.0'), [[], [], []])
        self.assertEqual(wanted('file f 2; task a; map a 0 1 common f 1 r; show a 0.0'),
                         [[], [('file', 'f', 1)], [('file', 'f', 1)], [('file', 'f', 1)], []])

    def test_puts(self):
        put = 'task a; map a 0 2 zero rw; put a 0.0 = a 1.0; show a 0.0'
        one, other = ('task', 'a', 0), ('task', 'a', 1)
        self.assertEqual(wanted(put, 4, 1), [[], [], [other], [one], []])
        self.assertEqual(wanted(put, 4, 2), [[], [], [one, other], [one], []])
        self.assertEqual(wanted('task a; map a 0 2 zero rw; put a 1.0 = a 0.0; show a 0.0')[2], [one])
        front = 'file f 1; task a; map a 0 1 apart f 0 rw; map a 1 1 common f 0 rw; '
        self.assertEqual(wanted(front + 'put a 0.0 = 1; show a 0.0')[4], [('file', 'f', 0)])
        self.assertEqual(wanted(front + 'put a 0.0 = 1; show a 0.0', 4, 1)[4], [])
        self.assertEqual(wanted(front + 'put a 1.0 = 1; show a 1.0')[4], [('file', 'f', 0)])
        self.assertEqual(wanted(front + 'put a 1.0 = 1; show a 1.0', 4, 1)[4], [])

    def test_forks_and_moves(self):
        one, other = ('task', 'a', 0), ('task', 'b', 0)
        self.assertEqual(wanted('task a; map a 0 1 zero r; fork a b; show a 0.0; show b 0.0'),
                         [[], [], [one], [one, other], [other], []])
        self.assertEqual(wanted('task a; map a 0 2 zero r; fork a b; move b 0 2 to 2; show b 2.0')[2:5],
                         [[one], [other], [('task', 'b', 2)]])

    def test_against_the_model(self):
        for seed in range(500):
            maker = Maker(seed, 1 + seed % 3, 1 + seed % 3)
            script = Script(maker.leaves, maker.cells, maker.steps(seed % 40))
            self.assertEqual([set(row) for row in wanted_leaves(Story(script, Sums()))], wanted_of(script))


class CopiesTest(unittest.TestCase):

    def judge(self, script, most_takes=8):
        found = least_copies(script)
        self.assertIs(found.shows(script), True)
        self.assertEqual(found, least_copies(script))
        self.assertEqual(marked_number(script, found.marks), len(found.plan))
        self.assertEqual(len(dict(found.marks)), len(found.marks))
        self.assertEqual((found.joins, found.plan), (sorted(found.joins), sorted(found.plan)))
        for contents, mark in found.marks:
            self.assertNotEqual(contents, (ZERO,) * script.cells)
            self.assertTrue(0 <= mark <= 2 * len(script) + 1)
        if len(store_of(script)[2]) <= most_takes and len(found.plan) < 5:
            self.assertEqual(fewest_copies(script, len(found.plan)), len(found.plan))
        return found

    def test_example(self):
        script = told('task a; map a 0 1 zero rw; put a 0.0 = x; fork a b; fork a c; put b 0.1 = 7; put c 0.1 = 7; '
                      'show a 0.0; show b 0.0; show c 0.0')
        self.assertEqual(len(self.judge(script).plan), 1)

    def test_scripts(self):
        for text, copies in (('', 0), (FRONT + 'put b 0.1 = 7', 0), (FRONT + 'put b 0.1 = 7; show b 0.0', 0),
                             (FRONT + 'put b 0.1 = 7; show a 0.0; show b 0.0', 1),
                             (FRONT + 'put b 0.1 = 7; put a 0.1 = 7; show a 0.0; show b 0.0', 1),
                             (FRONT + 'put b 0.1 = 7; put a 0.1 = 8; show a 0.0; show b 0.0', 1),
                             (FRONT + 'show a 0.0; put b 0.1 = 7; show b 0.0', 0),
                             (FRONT + 'end a; put b 0.1 = 7; show b 0.0', 0),
                             (FRONT + 'put b 0.0 = x; show a 0.0; show b 0.0', 0),
                             (FRONT + 'put b 0.0 = 0; show a 0.0; show b 0.0', 0),
                             (FRONT + 'put b 0.1 = 1; put b 0.1 = 2; show a 0.0; show b 0.0', 1),
                             (FRONT + 'fork a c; put b 0.1 = 1; put c 0.1 = 2; show a 0.0; show b 0.0; show c 0.0', 2)):
            self.assertEqual(len(self.judge(told(text)).plan), copies, text)
        # With one cell a put never takes what was there.
        for text in (FRONT + 'put b 0.0 = 7; show a 0.0; show b 0.0', FRONT + 'put b 0.0 = 7; put a 0.0 = 7; show a 0.0'):
            self.assertEqual(self.judge(told(text, 4, 1)), Copies([], [], []))

    def test_leaves_of_files(self):
        front = 'file f 1; task a; map a 0 1 apart f 0 rw; task b; map b 0 1 common f 0 rw; '
        for behind, copies in (('put a 0.0 = 1; show a 0.1; show b 0.0', 1), ('put a 0.0 = 1; show b 0.0', 0),
                               ('put a 0.0 = 1; show a 0.1', 0), ('put a 0.0 = 1; show b 0.0; show a 0.0', 1),
                               ('show b 0.0; put a 0.0 = 1; show a 0.0', 0),
                               ('file f 1; file f 2; put a 0.0 = 1; show b 0.0; show a 0.0', 1),
                               ('put b 0.0 = 1; show a 0.0; show b 0.1', 0),
                               ('put a 0.0 = 1; put b 0.0 = 1; show b 0.0; show a 0.0', 1)):
            found = self.judge(told(front + behind))
            self.assertEqual(len(found.plan), copies, behind)

    def test_joining_is_better(self):
        # The second put joins the frame that the first one made of a copy.
        text = 'task a; map a 0 1 zero rw; put a 0.0 = x; fork a b; fork a c; put b 0.1 = 1; put c 0.1 = 1; ' \
               'show a 0.0; show b 0.0; show c 0.0'
        found = self.judge(told(text))
        self.assertEqual((found.joins, found.plan), ([6], [5]))
        self.assertIs(Copies([], [5, 6], found.marks).shows(told(text)), False)

    def test_all_plans(self):
        planned, joined = 0, 0
        for seed in range(700):
            found = self.judge(sharing_script(Script, seed, 6 + seed % 12))
            planned += len(found.plan) > 0
            joined += len(found.joins) > 0
        self.assertGreater(planned, 300)
        self.assertGreater(joined, 20)

    def test_knotted_scripts(self):
        # Seeds of scripts in which marks rest on puts that join, that are left over, or that take without a copy.
        seeds = [3066, 7217, 7346, 7483, 7982, 9466, 23145, 23228, 33051, 362, 499, 2200, 4641, 807, 1861, 2485, 3472]
        for seed in seeds + list(range(250)):
            script = knotted_script(Script, seed)
            if len(joinable_of(script)) > 10:
                with self.assertRaises(TooLarge):
                    least_copies(script)
            else:
                self.judge(script, 4)

    def test_other_scripts(self):
        for seed in range(400):
            maker = Maker(seed, 1 + seed % 3, 1 + seed % 3)
            self.judge(Script(maker.leaves, maker.cells, maker.steps(seed % 30)))

    def test_bent_evidence(self):
        script = told('task a; map a 0 1 zero rw; put a 0.0 = x; fork a b; fork a c; put b 0.1 = 7; put c 0.1 = 7; '
                      'show a 0.0; show b 0.0; show c 0.0')
        found = least_copies(script)
        joins, plan, marks = found.joins, found.plan, found.marks
        for others in ([], [5], [5, 6], [6, 6], [2], [6, 7], [-1, 6], [6, 100]):
            self.assertIs(Copies(others, plan, marks).shows(script), False, others)
        for others in ([], [6], [5, 6], [5, 5], [4], [5, 7]):
            self.assertIs(Copies(joins, others, marks).shows(script), False, others)
        old, new = (X, ZERO), (X, (7, ()))
        wrong = [[], marks[1:], marks + marks[:1], [(old, 12)], [(new, 12)], [(old, -1), (new, 12)], [(old, 22)],
                 [(old, 10), (new, 12), ((ZERO, ZERO), 3)], [((ZERO, ZERO), 12)], [(old, 12), (old, 12), (new, 12)],
                 [(new, 21)], [(old, 11), (new, 11)], [(old, 12), (new, 22)], [((X,), 12), (new, 12), (old, 12)]]
        for others in wrong:
            shows = Copies(joins, plan, others).shows(script)
            self.assertIs(shows, is_right(script, others), others)
        # With one step more ahead of them, places and marks are others.
        self.assertIs(found.shows(script.part(0, 3) + [('end', 'd')] + script.part(3)), False)

    def test_marks_of_other_contents(self):
        # These add nothing to the number, so that only their form matters.
        script = told(FRONT + 'put b 0.1 = 7; show a 0.0; show b 0.0')
        found = least_copies(script)
        other, last = ((99, ()), ZERO), 2 * len(script) + 1
        for pair, shows in (((other, 0), True), ((other, last), True), ((other, -1), False), ((other, last + 1), False),
                            ((other, True), False), ((other, None), False), ((other, 0, 0), False), ([other, 0], False),
                            ((list(other), 0), False), ((other[:1], 0), False), ((other + (ZERO,), 0), False),
                            (((ZERO, ZERO), 1), False), (((ZERO, (99, (5,))), 1), False), (((ZERO, 5), 1), False)):
            self.assertIs(Copies(found.joins, found.plan, found.marks + [pair]).shows(script), shows, pair)
        twice = found.marks + [(other, 1), (other, 1)]
        self.assertIs(Copies(found.joins, found.plan, twice).shows(script), False)

    def test_numbers_of_marks(self):
        dice = random.Random(1)
        for seed in range(150):
            script = (knotted_script if seed % 2 else sharing_script)(Script, seed)
            wanted_there, brings, takes = told_store = store_of(script)
            rows = sorted({contents for row in wanted_there for contents in row}
                          | {contents for pair in takes.values() for contents in pair})
            sums = Sums()
            store = Store(script, sums)
            for _ in range(40):
                near = [dice.choice(list(brings) + list(takes) + [0]) for _ in rows]
                marks = [(contents, min(max(2 * at + dice.randint(-1, 5), 0), 2 * len(script) + 1))
                         for contents, at in zip(rows, near) if dice.random() < 0.7]
                told_marks = {numbered(sums, contents): mark for contents, mark in marks}
                self.assertEqual(number_of_marks(store, told_marks), marked_number(script, marks, told_store))

    def test_marks_against_the_model(self):
        count = 0
        for seed in range(60):
            script = sharing_script(Script, seed, 8)
            found = least_copies(script)
            rows = sorted({contents for row in store_of(script)[0] for contents in row})
            for at, contents in enumerate(rows):
                for mark in (0, 5, 8, 2 * at + 1, 2 * len(script), 2 * len(script) + 1, 2 * len(script) + 2):
                    others = [pair for pair in found.marks if pair[0] != contents] + [(contents, mark)]
                    shows = Copies(found.joins, found.plan, others).shows(script)
                    right = mark <= 2 * len(script) + 1 and marked_number(script, others) == len(found.plan)
                    self.assertIs(shows, right)
                    count += not shows
        self.assertGreater(count, 100)

    def test_as_evidence(self):
        joins, plan, marks = [1], [2], [((X, ZERO), 3)]
        one = Copies(joins, tuple(plan), tuple(marks))
        joins.append(4)
        self.assertEqual((one.joins, one.plan, one.marks), ([1], [2], marks))
        self.assertIsNot(Copies([1], plan, marks).marks, marks)
        self.assertEqual(one, Copies([1], [2], marks))
        for other in (Copies([], [2], marks), Copies([1], [], marks), Copies([1], [2], []), None):
            self.assertNotEqual(one, other)

    def test_joinable_puts(self):
        for many in range(8, 13):
            script = puts_that_could_join(many)
            self.assertEqual(len(joinable_of(script)), many)
            if many <= 10:
                self.judge(script)
                self.assertIs(Copies([], [], []).shows(script), False)
            else:
                for call in (least_copies, Copies([], [], []).shows):
                    with self.assertRaises(TooLarge):
                        call(script)

    def test_puts_into_zeros_bring_frames(self):
        # However many they are, and though their contents were there before, they neither take nor join.
        names = 'abcdefghijklmno'
        steps = [('task', 'a'), ('map', 'a', 0, 1, ('zero',), 'rw')] + [('fork', 'a', name) for name in names[1:]]
        steps += [('put', name, 0, 0, (('number', 1),)) for name in names] + [('show', name, 0, 0) for name in names]
        script = Script(1, 2, steps)
        self.assertEqual(self.judge(script), Copies([], [], []))
        self.assertIs(Copies([20], [], []).shows(script), False)
        # Nor do puts that change nothing, or leave zeros.
        steps = steps[:31] + [('put', name, 0, 0, (('number', 1),)) for name in names]
        steps += [('put', name, 0, 0, (('number', 0),)) for name in names] + [('show', name, 0, 0) for name in names]
        self.assertEqual(self.judge(Script(1, 2, steps)), Copies([], [], []))

    def test_joinable_by_brought_contents(self):
        # The contents that a put into zeros brings can be joined, too.
        steps = [('task', 'a'), ('map', 'a', 0, 2, ('zero',), 'rw'), ('put', 'a', 0, 0, (('number', 1),)),
                 ('put', 'a', 1, 0, (('number', 2),)), ('put', 'a', 1, 0, (('number', 1),)),
                 ('show', 'a', 0, 0), ('show', 'a', 1, 0)]
        self.assertEqual(joinable_of(Script(2, 2, steps)), [4])
        self.judge(Script(2, 2, steps))

    def test_long_scripts(self):
        start = time.monotonic()
        names = [a + b for a in 'abcdef' for b in 'abcdefghijklmnopqrstuvwxyz']
        steps = [('task', 'z'), ('map', 'z', 0, 64, ('zero',), 'rw'), ('put', 'z', 5, 0, (('number', 1),))]
        steps += [('fork', 'z', name) for name in names[:90]]
        puts = [('put', name, 5, 1, (('number', max(1, at - 9)),)) for at, name in enumerate(names[:90])]
        script = Script(64, 4, steps + puts + [('show', name, 5, 0) for name in ['z'] + names[:90]])
        found = least_copies(script)
        self.assertEqual((len(found.plan), len(found.joins)), (80, 10))
        self.assertIs(found.shows(script), True)
        files = [('file', name, 64) for name in names[:150]] + [('task', 'z')]
        self.assertEqual(least_copies(Script(64, 4, files)), Copies([], [], []))
        self.assertLess(time.monotonic() - start, 60)

    def test_no_script(self):
        for call in (least_copies, Copies([], [], []).shows):
            for wrong in (None, 5, [], 'space 1 leaves 1 cells'):
                with self.assertRaises(BadScript) as caught:
                    call(wrong)
                self.assertIsNone(caught.exception.place)


def is_right(script, marks):
    """Whether marks are as described for one copy."""
    contents = [pair[0] for pair in marks]
    if len(set(contents)) != len(contents) or (ZERO,) * script.cells in contents:
        return False
    if not all(len(row) == script.cells and 0 <= mark <= 2 * len(script) + 1 for row, mark in marks):
        return False
    return marked_number(script, marks) == 1


def puts_that_could_join(many):
    """A script in which so many puts can take a frame for contents that were there before."""
    names = 'bcdefghijklmnop'[:many + 1]
    steps = [('task', 'a'), ('map', 'a', 0, 1, ('zero',), 'rw'), ('put', 'a', 0, 0, (('input', 'x', 1),))]
    steps += [('fork', 'a', name) for name in names]
    steps += [('put', name, 0, 1, (('number', 1),)) for name in names]
    return Script(1, 2, steps + [('show', name, 0, 0) for name in 'a' + names])


if __name__ == '__main__':
    unittest.main()
