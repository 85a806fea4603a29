"""Desks: [12]."""

import random
import time
import unittest

from tests.model import Maker
from tests.model_more import PlainDesk
from twinleaves.desks import Desk
from twinleaves.errors import BadNumber, BadScript, BadSteps, Refused
from twinleaves.runs import run
from twinleaves.scripts import Script

X = (0, ((('input', 'x'), 1),))
TASK, MAP = ('task', 'a'), ('map', 'a', 0, 2, ('zero',), 'rw')
PUT, SHOW = ('put', 'a', 0, 0, (('input', 'x', 1),)), ('show', 'a', 0, 0)
FORK = ('fork', 'a', 'b')
NO_STEPS = (None, 5, [], (), 'task', ('task',), ['task', 'a'], ('task', 'A'), ('map', 'a', 0, True, ('zero',), 'r'),
            ('show', 'a', True, 0), ('map', 'a', 0, 1, ['zero'], 'r'))


def desk_with(steps, most=None, leaves=4, cells=1):
    desk = Desk(leaves, cells, most=most)
    for step in steps:
        desk.step(step)
    return desk


def seen_at(desk):
    """All that can be seen of a desk."""
    cells = [desk.cell(name, leaf, cell) for name in 'abc' for leaf in range(5) for cell in range(2)]
    return (list(desk), desk.shown(), desk.most, desk.tasks(), [desk.mapped(name) for name in 'abc'], cells, len(desk),
            desk.script(), [name in desk for name in 'abc'])


class Broken(Exception):
    pass


class DeskTest(unittest.TestCase):

    def test_examples(self):
        desk = Desk(4, 1)
        first = [desk.step(('task', 'a')), desk.step(('task', 'a')), desk.step(('map', 'a', 1, 2, ('zero',), 'r'))]
        self.assertEqual([first, desk.step(('show', 'a', 1, 0)), desk.trial(lambda one: one.step(('end', 'a'))),
                          desk.mapped('a')], [[True, False, True], (0, ()), True, [1, 2]])
        desk = Desk(4, 1, most=2)
        first = [desk.step(('task', 'a')), desk.step(('map', 'a', 0, 3, ('zero',), 'rw'))]
        second = desk.together(('map', 'a', 0, 2, ('zero',), 'rw'), ('put', 'a', 0, 0, (('number', 7),)))
        self.assertEqual([first, second, desk.cell('a', 0, 0), desk.most, 'a' in desk, len(desk)],
                         [[True, False], [True, True], (7, ()), 2, True, 4])

    def test_steps(self):
        desk = Desk(4, 2)
        self.assertEqual((len(desk), list(desk), desk.shown(), desk.tasks(), desk.most), (0, [], [], [], None))
        told = [desk.step(step) for step in (SHOW, TASK, MAP, PUT, SHOW, SHOW[:2] + (1, 1), SHOW[:2] + (2, 0), FORK,
                                             FORK, ('task', 'c'), ('end', 'z'))]
        self.assertEqual(told, [None, True, True, True, X, (0, ()), None, True, False, True, False])
        self.assertIs(told[1], True)
        self.assertIs(told[8], False)
        self.assertEqual((len(desk), desk.shown(), desk.tasks()), (11, [None, X, (0, ()), None], ['a', 'b', 'c']))
        self.assertEqual([desk.mapped(name) for name in 'abcd'], [[0, 1], [0, 1], [], []])
        self.assertEqual(list(desk)[:2], [SHOW, TASK])
        self.assertEqual(desk.script(), Script(4, 2, list(desk)))
        self.assertEqual(run(desk.script()).seen, desk.shown())
        self.assertEqual([name in desk for name in ('a', 'b', 'c', 'd')], [True, True, True, False])
        self.assertEqual(len(desk), 11)

    def test_files_are_no_tasks(self):
        desk = desk_with([('file', 'f', 3)])
        self.assertEqual((desk.tasks(), 'f' in desk, desk.mapped('f')), ([], False, []))

    def test_cells(self):
        desk = desk_with([('file', 'f', 1), TASK, MAP, PUT, ('map', 'a', 2, 2, ('common', 'f', 0), 'r')], leaves=5)
        found = [desk.cell('a', leaf, cell) for leaf, cell in ((0, 0), (1, 0), (2, 0), (3, 0), (4, 0), (9, 0), (0, 1))]
        self.assertEqual(found, [X, (0, ()), (0, ((('file', 'f', 0, 0), 1),)), None, None, None, None])
        self.assertIsNone(desk.cell('b', 0, 0))
        self.assertEqual((len(desk), desk.shown()), (5, []))
        for told in (('A', 0, 0), ('a', -1, 0), ('a', 0, 1000), ('a', 1000, 0), ('a', True, 0), (None, 0, 0),
                     ('a', '0', 0), ('abcdefghi', 0, 0)):
            with self.assertRaises(BadSteps):
                desk.cell(*told)

    def test_answers_are_new(self):
        desk = desk_with([TASK, MAP, SHOW])
        before = seen_at(desk)
        for rows in (desk.shown(), desk.tasks(), desk.mapped('a'), desk.together()):
            rows.append('more')
        self.assertEqual(seen_at(desk), before)

    def test_refused_steps(self):
        desk = desk_with([TASK])
        with self.assertRaises(Refused) as caught:
            desk.must(FORK[:1] + ('b', 'c'))
        self.assertEqual((caught.exception.step, list(desk)), (('fork', 'b', 'c'), [TASK]))
        with self.assertRaises(Refused) as caught:
            desk.must(SHOW)
        self.assertEqual((caught.exception.step, desk.shown(), len(desk)), (SHOW, [], 1))
        self.assertEqual([desk.must(MAP), desk.must(SHOW), desk.must(PUT), desk.must(SHOW)], [True, (0, ()), True, X])
        self.assertEqual((len(desk), desk.shown()), (5, [(0, ()), X]))
        self.assertIs(desk.step(TASK), False)
        self.assertEqual((len(desk), list(desk)[-1]), (6, TASK))

    def test_no_steps(self):
        desk = desk_with([TASK])
        for wrong in NO_STEPS:
            for call in (desk.step, desk.must, desk.together):
                with self.assertRaises(BadSteps):
                    call(wrong)
        self.assertEqual(list(desk), [TASK])

    def test_together(self):
        desk = desk_with([TASK])
        self.assertEqual(desk.together(), [])
        self.assertEqual(desk.together(MAP, SHOW, PUT, SHOW), [True, (0, ()), True, X])
        before = seen_at(desk)
        good = [('put', 'a', 0, 0, (('number', 5),)), SHOW, ('unmap', 'a', 1, 1)]
        for place in range(4):
            for wrong, kind in ((TASK, Refused), (('show', 'a', 2, 0), Refused), (('task', 5), BadSteps), (None, BadSteps)):
                with self.assertRaises(kind):
                    desk.together(*good[:place], wrong, *good[place:])
                self.assertEqual(seen_at(desk), before)
        with self.assertRaises(Refused) as caught:
            desk.together(TASK, None)
        self.assertEqual(caught.exception.step, TASK)
        with self.assertRaises(BadSteps):
            desk.together(None, TASK)
        self.assertEqual(seen_at(desk), before)
        self.assertEqual(desk.together(*good)[1], (5, ()))

    def test_300_steps(self):
        start = time.monotonic()
        desk = desk_with([TASK, ('map', 'a', 0, 64, ('zero',), 'rw'), PUT], leaves=64, cells=4)
        for number in range(297):
            self.assertIs(desk.step(('put', 'a', number % 64, number % 4, (('cell', 'a', 0, 0, 2), ('number', 1)))), True)
        self.assertEqual(len(desk), 300)
        for call in (desk.step, desk.must, desk.together, lambda step: desk.trial(lambda one: one.must(step))):
            for wrong in (SHOW, TASK, None):
                with self.assertRaises(BadSteps):
                    call(wrong)
        self.assertEqual((len(desk), len(desk.script()), desk.shown(), desk.together()), (300, 300, [], []))
        desk = desk_with([TASK] * 298)
        with self.assertRaises(BadSteps):
            desk.together(MAP, SHOW, PUT)
        self.assertEqual((len(desk), desk.mapped('a')), (298, []))
        self.assertEqual(desk.together(MAP, SHOW), [True, (0, ())])
        self.assertLess(time.monotonic() - start, 20)

    def test_layouts(self):
        for leaves, cells in ((0, 1), (65, 1), (1, 0), (1, 5), (True, 1), (1, True), (None, 1), ('1', 1), (1.0, 1)):
            for most in (None, -1, 'a'):
                with self.assertRaises(BadScript) as caught:
                    Desk(leaves, cells, most=most)
                self.assertIsNone(caught.exception.place)
        self.assertEqual(Desk(64, 4).script(), Script(64, 4, []))


class AllowanceTest(unittest.TestCase):

    def test_wrong_allowances(self):
        desk = Desk(4, 1, most=3)
        for most in (-1, True, False, 1.0, '1', (1,), [], {}):
            with self.assertRaises(BadNumber):
                Desk(4, 1, most=most)
            with self.assertRaises(BadNumber):
                desk.allow(most)
        self.assertEqual(desk.most, 3)

    def test_maps(self):
        def done(most, many):
            return desk_with([TASK], most).step(('map', 'a', 0, many, ('zero',), 'r'))
        self.assertEqual([done(2, many) for many in (1, 2, 3, 4, 5)], [True, True, False, False, False])
        self.assertEqual([done(0, 1), done(None, 4), done(10 ** 30, 4), done(4, 4), done(3, 4)],
                         [False, True, True, True, False])
        desk = desk_with([TASK, MAP], 2)
        self.assertEqual(desk.step(('map', 'a', 2, 1, ('zero',), 'r')), False)
        self.assertEqual((desk.mapped('a'), len(desk)), ([0, 1], 3))

    def test_forks(self):
        desk = desk_with([TASK, MAP], 3)
        self.assertIs(desk.step(FORK), False)
        self.assertEqual(desk.tasks(), ['a'])
        desk.allow(4)
        self.assertIs(desk.step(FORK), True)
        self.assertIs(desk.step(('fork', 'b', 'c')), False)
        self.assertEqual((desk.most, desk.tasks()), (4, ['a', 'b']))

    def test_all_tasks_count(self):
        desk = desk_with([TASK, MAP, ('task', 'b'), ('map', 'b', 0, 1, ('zero',), 'r')], 4)
        self.assertIs(desk.step(('map', 'b', 1, 2, ('zero',), 'r')), False)
        self.assertIs(desk.step(('map', 'b', 1, 1, ('zero',), 'r')), True)

    def test_no_more_leaves_than_before(self):
        # An allowance that is passed already hinders only what would have more leaves.
        desk = desk_with([TASK, MAP, ('task', 'c')])
        desk.allow(1)
        self.assertEqual((desk.most, desk.mapped('a')), (1, [0, 1]))
        self.assertIs(desk.step(('fork', 'c', 'd')), True)
        self.assertIs(desk.step(('map', 'c', 0, 1, ('zero',), 'r')), False)
        self.assertIs(desk.step(FORK), False)
        for step in (('move', 'a', 0, 2, 2), ('unmap', 'a', 3, 1), ('guard', 'a', 2, 1, 'r'), ('file', 'f', 9)):
            self.assertIs(desk.step(step), True)
        self.assertIs(desk.step(('map', 'c', 0, 1, ('zero',), 'r')), False)
        desk.allow(2)
        self.assertIs(desk.step(('map', 'c', 0, 1, ('apart', 'f', 0), 'r')), True)
        self.assertIs(desk.step(('map', 'c', 1, 1, ('common', 'f', 60), 'r')), False)
        desk.allow()
        self.assertIsNone(desk.most)
        self.assertIs(desk.step(('map', 'c', 1, 1, ('common', 'f', 60), 'r')), True)

    def test_must_and_together(self):
        desk = desk_with([TASK], 2)
        with self.assertRaises(Refused) as caught:
            desk.must(('map', 'a', 0, 3, ('zero',), 'r'))
        self.assertEqual((caught.exception.step[3], len(desk)), (3, 1))
        with self.assertRaises(Refused):
            desk.together(MAP, ('fork', 'a', 'c'))
        self.assertEqual((len(desk), desk.mapped('a')), (1, []))
        self.assertEqual(desk.together(MAP, ('unmap', 'a', 0, 1), ('fork', 'a', 'c')), [True] * 3)


class TrialTest(unittest.TestCase):

    def test_what_is_returned(self):
        desk = desk_with([TASK])
        self.assertEqual(desk.trial(lambda one: (one is desk, one.step(MAP))), (True, True))
        self.assertIsNone(desk.trial(lambda one: None))
        self.assertEqual(desk.mapped('a'), [])

    def test_all_is_as_before(self):
        desk = desk_with([TASK, MAP, PUT, SHOW], 3)
        before = seen_at(desk)

        def work(one):
            one.step(SHOW)
            one.step(('end', 'a'))
            one.allow(50)
            one.step(SHOW)
            one.together(('task', 'b'), ('task', 'c'))
            return seen_at(one)
        self.assertNotEqual(desk.trial(work), before)
        self.assertEqual(seen_at(desk), before)
        self.assertEqual(desk.step(SHOW), X)

    def test_keep(self):
        desk = desk_with([TASK], 3)

        def work(one):
            one.must(MAP)
            one.allow(9)
            one.step(SHOW)
            one.keep()
            one.allow()
            one.must(PUT)
            one.step(SHOW)
        desk.trial(work)
        self.assertEqual((list(desk), desk.most, desk.shown(), desk.cell('a', 0, 0)), ([TASK, MAP, SHOW], 9, [(0, ())],
                                                                                      (0, ())))

    def test_last_keep_counts(self):
        desk = Desk(4, 1)
        desk.trial(lambda one: [one.step(TASK), one.keep(), one.step(MAP), one.keep(), one.step(PUT)])
        self.assertEqual(list(desk), [TASK, MAP])

    def test_keep_outside_of_trials(self):
        desk = desk_with([TASK])
        self.assertIsNone(desk.keep())
        desk.trial(lambda one: one.step(MAP))
        desk.keep()
        desk.step(PUT)
        self.assertEqual(list(desk), [TASK, PUT])
        desk.trial(lambda one: one.step(MAP))
        self.assertEqual(list(desk), [TASK, PUT])

    def test_within_one_another(self):
        for outer in (False, True):
            for inner in (False, True):
                desk = desk_with([TASK])

                def within(one):
                    one.step(MAP)
                    if inner:
                        one.keep()
                    one.step(PUT)

                def work(one):
                    one.step(SHOW)
                    one.trial(within)
                    steps = list(one)
                    if outer:
                        one.keep()
                    return steps
                steps = desk.trial(work)
                self.assertEqual(steps, [TASK, SHOW] + [MAP] * inner)
                self.assertEqual(list(desk), steps if outer else [TASK])

    def test_keep_within_an_inner_trial_is_not_the_outer_one_s(self):
        desk = Desk(4, 1)

        def work(one):
            one.step(TASK)
            one.keep()
            one.trial(lambda two: [two.step(MAP), two.keep()])
            self.assertEqual(list(one), [TASK, MAP])
        desk.trial(work)
        self.assertEqual(list(desk), [TASK])

    def test_errors(self):
        for kind in (Broken, ValueError, KeyError, BadSteps, KeyboardInterrupt, StopIteration, GeneratorExit):
            for kept in (False, True):
                desk = desk_with([TASK], 2)

                def work(one):
                    one.step(MAP)
                    one.allow(7)
                    if kept:
                        one.keep()
                    one.step(PUT)
                    raise kind('why')
                with self.assertRaises(kind) as caught:
                    desk.trial(work)
                self.assertIs(type(caught.exception), kind)
                self.assertEqual((list(desk), desk.most), ([TASK, MAP], 7) if kept else ([TASK], 2))
                self.assertEqual(desk.trial(lambda one: one.step(FORK)), not kept or desk.most >= 4)
                desk.keep()
                self.assertEqual(len(desk), 2 if kept else 1)

    def test_errors_within_one_another(self):
        desk = Desk(4, 1)

        def broken(one):
            one.step(MAP)
            one.keep()
            one.step(PUT)
            raise Broken

        def work(one):
            one.step(TASK)
            try:
                one.trial(broken)
            except Broken:
                one.keep()
            one.step(SHOW)
            one.trial(broken)
        with self.assertRaises(Broken):
            desk.trial(work)
        self.assertEqual(list(desk), [TASK, MAP])

    def test_refused_in_a_trial(self):
        desk = desk_with([TASK])
        with self.assertRaises(Refused):
            desk.trial(lambda one: [one.step(MAP), one.must(TASK)])
        self.assertEqual(list(desk), [TASK])
        with self.assertRaises(BadSteps):
            desk.trial(lambda one: [one.step(MAP), one.keep(), one.together(PUT, None)])
        self.assertEqual(list(desk), [TASK, MAP])


class AgainstTheModelTest(unittest.TestCase):

    def test_steps(self):
        for seed in range(200):
            leaves, cells, most = 1 + seed % 3, 1 + seed % 2, [None, 0, 1, 2, 4, 7][seed % 6]
            maker = Maker(seed, leaves, cells)
            desk, plain = Desk(leaves, cells, most=most), PlainDesk(leaves, cells, most)
            for at, step in enumerate(maker.steps(seed % 50)):
                if at == 20:
                    desk.allow(5)
                    plain.all['most'] = 5
                self.assertEqual(desk.step(step), plain.step(step))
            self.compare(desk, plain)

    def compare(self, desk, plain):
        world = plain.all['world']
        self.assertEqual((list(desk), desk.shown(), desk.most), (plain.all['steps'], plain.all['seen'], plain.all['most']))
        self.assertEqual(desk.tasks(), sorted(world.tasks))
        for name in 'abc':
            self.assertEqual(desk.mapped(name), sorted(world.tasks.get(name, {})))
            self.assertEqual(name in desk, name in world.tasks)

    def test_trials(self):
        for seed in range(120):
            maker = Maker(seed, 3, 1)
            desk, plain = Desk(3, 1), PlainDesk(3, 1)
            self.play(desk, plain, maker, random.Random(seed), 0)
            self.compare(desk, plain)
            self.assertEqual(run(desk.script()).seen == desk.shown(), run(desk.script()).seen == plain.all['seen'])

    def play(self, desk, plain, maker, dice, depth):
        """Do steps of all kinds on both; what the plain desk is when the last keep of this depth was called."""
        kept = plain.copied()
        for _ in range(dice.randint(1, 12)):
            part = dice.random()
            if part < 0.6:
                step = maker.step(['task', 'end', 'fork', 'map', 'unmap', 'put', 'show', 'file', 'cut', 'task', 'map'])
                self.assertEqual(desk.step(step), plain.step(step))
            elif part < 0.7:
                plain.all['most'] = dice.choice([None, 2, 4, 6])
                desk.allow(plain.all['most'])
            elif part < 0.8:
                desk.keep()
                kept = plain.copied()
            elif depth < 4:
                self.play_within(desk, plain, maker, dice, depth)
            self.compare(desk, plain)
        return kept

    def play_within(self, desk, plain, maker, dice, depth):
        after, broken = [], dice.random() < 0.4

        def work(one):
            after.append(self.play(one, plain, maker, dice, depth + 1))
            if broken:
                raise Broken
        try:
            desk.trial(work)
            self.assertFalse(broken)
        except Broken:
            self.assertTrue(broken)
        plain.all = after[0]


if __name__ == '__main__':
    unittest.main()
