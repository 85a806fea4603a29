"""Walks, changes, watchers and meters: [22]."""

import unittest

from tests.model import Maker, seen_of, tuple_of, worlds_of
from twinleaves.desks import Desk
from twinleaves.errors import BadNumber, BadScript, BadSteps
from twinleaves.reading import read_script
from twinleaves.scripts import Script
from twinleaves.walks import Meter, changes, walk, watcher

X = (0, ((('input', 'x'), 1),))


def told(text, leaves=4, cells=1):
    return read_script(f'space {leaves} leaves {cells} cells\n' + text.replace('; ', '\n'))


EXAMPLE = told('task a; map a 0 2 zero r; show a 0.0; put a 0.0 = 1')
LONG = told('task a; task a; map a 0 2 zero rw; put a 0.0 = x; show a 0.0; show a 3.0; show a 1.0; end a; end a')


class WalkTest(unittest.TestCase):

    def test_example(self):
        meter = Meter('put', 'show')
        self.assertEqual([[word for place, step, word in walk(EXAMPLE)], list(changes(EXAMPLE, 'a')), meter(EXAMPLE * 2),
                          list(meter), len(EXAMPLE.part(1, 3))],
                         [[True, True, (0, ()), False], [(0, []), (1, [0, 1])], 4, [('put', 2), ('show', 2)], 2])

    def test_walks(self):
        whole = list(walk(LONG))
        self.assertEqual([row[0] for row in whole], list(range(9)))
        self.assertEqual([row[1] for row in whole], list(LONG.steps))
        self.assertEqual([row[2] for row in whole], [True, False, True, True, X, None, (0, ()), True, False])
        self.assertTrue(all(type(row) is tuple for row in whole))
        for start in (0, 1, 5, 8, 9, 10, 10 ** 30):
            for every in (1, 2, 3, 8, 9, 10 ** 30):
                self.assertEqual(list(walk(LONG, start=start, every=every)), whole[min(start, 9)::min(every, 99)])
        self.assertEqual(list(walk(Script(1, 1, []))), [])

    def test_one_by_one(self):
        steps = walk(LONG, start=2, every=2)
        self.assertIs(iter(steps), steps)
        self.assertEqual([next(steps)[0], next(steps)[2], next(steps)[2], next(steps)[0], next(steps, 'end')],
                         [2, X, (0, ()), 8, 'end'])
        one, other = walk(LONG), walk(LONG)
        self.assertEqual([next(one)[0], next(one)[0], next(other)[0], next(one)[0]], [0, 1, 0, 2])

    def test_errors_come_late(self):
        for wrong in (None, 5, [], 'space 1 leaves 1 cells'):
            steps = walk(wrong, start=-1)
            with self.assertRaises(BadScript) as caught:
                next(steps)
            self.assertIsNone(caught.exception.place)
            rows = changes(wrong, 'a')
            with self.assertRaises(BadScript) as caught:
                next(rows)
            self.assertIsNone(caught.exception.place)
        for start, every in ((-1, 1), (True, 1), (None, 1), ('0', 1), (0.0, 1), (0, 0), (0, -1), (0, True), (0, None), (0, 1.0),
                             (-1, 0)):
            for script in (LONG, Script(1, 1, [])):
                steps = walk(script, start=start, every=every)
                with self.assertRaises(BadNumber):
                    next(steps)

    def test_against_the_model(self):
        for seed in range(150):
            maker = Maker(seed, 1 + seed % 3, 1 + seed % 2)
            script = Script(maker.leaves, maker.cells, maker.steps(seed % 40))
            worlds, words = worlds_of(script)
            words = [tuple_of(word) if step[0] == 'show' else word for step, word in zip(script, words)]
            self.assertEqual([row[2] for row in walk(script)], words)
            self.assertEqual([row[2] for row in walk(script) if row[1][0] == 'show'], seen_of(script))
            for task in 'abcd':
                mapped = [sorted(world.tasks[task]) if task in world.tasks else None for world in worlds]
                rows = [(place, mapped[place + 1]) for place in range(len(script)) if mapped[place] != mapped[place + 1]]
                self.assertEqual(list(changes(script, task)), rows)


class ChangesTest(unittest.TestCase):

    def test_changes(self):
        for text, rows in (('', []), ('task b', []), ('task a; task a', [(0, [])]), ('task a; end a', [(0, []), (1, None)]),
                           ('task b; map b 1 2 zero r; fork b a; end b; unmap a 0 4', [(2, [1, 2]), (4, [])]),
                           ('task a; map a 0 2 zero r; move a 0 1 to 3; guard a 3 1 rw; put a 3.0 = 1; unmap a 0 1; '
                            'map a 0 1 zero r; unmap a 1 3',
                            [(0, []), (1, [0, 1]), (2, [1, 3]), (6, [0, 1, 3]), (7, [0])]),
                           ('task a; end a; task a; map a 0 9 zero r', [(0, []), (1, None), (2, [])]),
                           ('file a 3; task a; cut a 0; map a 0 1 apart a 0 r', [(1, []), (3, [0])])):
            self.assertEqual(list(changes(told(text), 'a')), rows, text)

    def test_what_is_given_is_new(self):
        rows = changes(told('task a; map a 0 1 zero r; guard a 0 1 rw; unmap a 0 1'), 'a')
        found = []
        for place, mapped in rows:
            found.append(place)
            mapped.append(5)
        self.assertEqual(found, [0, 1, 3])


class WatcherTest(unittest.TestCase):

    def test_steps(self):
        desk = Desk(4, 1)
        desk.step(('task', 'a'))
        first = watcher(desk)
        self.assertEqual([first(), first()], [[], []])
        desk.together(('task', 'b'), ('end', 'a'))
        second = watcher(desk)
        self.assertEqual([first(), first(), second()], [[('task', 'b'), ('end', 'a')], [], []])
        desk.step(('end', 'z'))
        found = first()
        found.append('more')
        self.assertEqual([first(), second(), second()], [[], [('end', 'z')], []])

    def test_steps_that_are_taken_back(self):
        desk = Desk(4, 1)
        first = watcher(desk)

        def work(one):
            one.step(('task', 'a'))
            one.step(('task', 'b'))
            return first()
        self.assertEqual(desk.trial(work), [('task', 'a'), ('task', 'b')])
        desk.step(('task', 'c'))
        self.assertEqual(first(), [])
        desk.step(('task', 'd'))
        self.assertEqual(first(), [('task', 'd')])
        second = watcher(desk)
        desk.trial(lambda one: [one.step(('end', 'c')), one.step(('end', 'd')), one.keep()])
        self.assertEqual([second(), first()], [[('end', 'c'), ('end', 'd')]] * 2)
        desk.trial(work)
        self.assertEqual([first(), second()], [[], []])


class MeterTest(unittest.TestCase):

    def test_kinds(self):
        self.assertEqual(Meter.KINDS, ('fork', 'map', 'put', 'show', 'unmap'))
        self.assertEqual(list(Meter()), [(kind, 0) for kind in Meter.KINDS])
        self.assertEqual(list(Meter('show', 'fork', 'show')), [('fork', 0), ('show', 0)])
        for wrong in (('task',), ('put', 'end'), (None,), (5,), ('',), (['put'],), (('put',),), ('put', True), ('Put',), ({},)):
            with self.assertRaises(BadSteps):
                Meter(*wrong)

    def test_counts(self):
        meter = Meter('put', 'map', 'show')
        self.assertEqual([meter(LONG), meter(LONG.steps[4]), meter(('end', 'a')), meter(('fork', 'a', 'b'), 3)], [5, 1, 0, 0])
        self.assertEqual([meter(LONG.steps[3], 4), meter(LONG, times=2), meter(LONG, 0), meter(Script(1, 1, []), 9)],
                         [4, 10, 0, 0])
        self.assertEqual(list(meter), [('map', 3), ('put', 7), ('show', 10)])
        self.assertEqual([meter.count(kind) for kind in ('map', 'put', 'show', 'fork', 'end', None, 5, [], {}, True)],
                         [3, 7, 10] + [0] * 7)
        self.assertEqual(meter.altogether(), 20)
        self.assertEqual((Meter().altogether(), Meter('put').altogether()), (0, 0))

    def test_refused_steps_count(self):
        meter = Meter()
        self.assertEqual([meter(EXAMPLE), meter(told('show b 0.0; unmap b 0 1; fork a b; unmap a 9 9'))], [3, 4])
        self.assertEqual(list(meter), [('fork', 1), ('map', 1), ('put', 1), ('show', 2), ('unmap', 2)])


if __name__ == '__main__':
    unittest.main()
