"""What steps do and show: [4]."""

import unittest

from tests.model import Maker, number_of, refused_of, seen_of
from twinleaves.errors import BadScript, BadValues
from twinleaves.reading import read_script
from twinleaves.runs import Outcome, inputs_of, run, shown
from twinleaves.scripts import Script

X, Y = ('input', 'x'), ('input', 'y')


def form(number, *rows):
    return (number, rows)


def told(text, leaves=4, cells=1):
    return read_script(f'space {leaves} leaves {cells} cells\n' + text.replace('; ', '\n'))


def seen(text, leaves=4, cells=1):
    return run(told(text, leaves, cells)).seen


def refused(text, leaves=4, cells=1):
    return run(told(text, leaves, cells)).refused


class StepsTest(unittest.TestCase):

    def test_tasks(self):
        self.assertEqual(refused('task a; task a; end b; end a; end a; task a'), [1, 2, 4])
        self.assertEqual(seen('task a; map a 0 1 zero r; end a; task a; show a 0.0'), [None])

    def test_forks(self):
        self.assertEqual(refused('fork a b; task a; fork a a; fork a b; fork a b; fork c d; fork b c; task c'),
                         [0, 2, 4, 5, 7])
        text = 'task a; map a 0 1 zero rw; put a 0.0 = x; fork a b; put a 0.0 = y; show a 0.0; show b 0.0; ' \
               'put b 0.0 = 7; show a 0.0; show b 0.0'
        self.assertEqual(seen(text), [form(0, (Y, 1)), form(0, (X, 1)), form(0, (Y, 1)), form(7)])
        # Rights, and leaves of files, are those of the first task.
        self.assertEqual(refused('file f 1; task a; map a 0 1 common f 0 r; fork a b; put b 0.0 = 1; '
                                 'guard b 0 1 rw; put b 0.0 = 1; put a 0.0 = 1'), [4, 7])

    def test_files(self):
        self.assertEqual(refused('file f 1; file f 2; cut g 1; cut f 3; file g 0; cut g 1'), [1, 2])
        text = 'file f 2; task a; map a 0 3 apart f 0 r; show a 0.0; show a 0.1; show a 1.1; show a 2.0'
        self.assertEqual(seen(text, 4, 2), [form(0, (('file', 'f', 0, 0), 1)), form(0, (('file', 'f', 0, 1), 1)),
                                            form(0, (('file', 'f', 1, 1), 1)), None])

    def test_cuts(self):
        text = 'file f 2; task a; map a 0 3 common f 0 rw; cut f 1; show a 0.0; show a 1.0; cut f 3; show a 0.0; ' \
               'show a 1.0; show a 2.0; put a 2.0 = x; cut f 3; show a 2.0; cut f 0; show a 0.0'
        first = form(0, (('file', 'f', 0, 0), 1))
        self.assertEqual(seen(text), [first, None, first, form(0), form(0), form(0, (X, 1)), None])

    def test_maps(self):
        self.assertEqual(refused('map a 0 1 zero r; task a; map a 1 3 zero r; map a 0 2 zero r; map a 3 1 zero r; '
                                 'map a 0 1 apart f 0 r; map a 4 1 zero r; map a 0 5 zero r; map a 0 1 zero r'),
                         [0, 3, 4, 5, 6, 7])
        self.assertEqual(refused('task a; map a 0 64 zero r; unmap a 0 64; map a 1 64 zero r', 64), [3])
        # A refused map maps nothing.
        self.assertEqual(seen('task a; map a 1 1 zero r; map a 0 2 zero r; show a 0.0; show a 1.0'), [None, form(0)])

    def test_leaves_that_files_do_not_have(self):
        text = 'file f 1; task a; map a 0 2 apart f 62 rw; show a 1.0; put a 1.0 = 1; cut f 64; show a 1.0; ' \
               'put a 1.0 = 1; show a 1.0; show a 0.0; cut f 0; show a 0.0; show a 1.0'
        self.assertEqual(seen(text), [None, form(0), form(1), form(0), None, form(1)])
        self.assertEqual(refused(text), [3, 4, 11])

    def test_unmaps(self):
        self.assertEqual(refused('unmap a 0 1; task a; unmap a 0 4; map a 1 2 zero r; unmap a 0 4; unmap a 1 4; '
                                 'map a 1 2 zero r; unmap a 2 1; show a 1.0; show a 2.0'), [0, 5, 9])

    def test_guards(self):
        self.assertEqual(refused('guard a 0 1 r; task a; map a 0 2 zero rw; guard a 0 3 r; put a 0.0 = 1; '
                                 'guard a 1 1 r; put a 0.0 = 1; put a 1.0 = 1; guard a 1 4 r; guard a 0 2 rw; '
                                 'put a 1.0 = 1'), [0, 3, 7, 8])
        # Torn leaves are mapped.
        self.assertEqual(refused('file f 0; task a; map a 0 1 common f 9 r; guard a 0 1 rw; cut f 10; '
                                 'put a 0.0 = 1'), [])

    def test_moves(self):
        front = 'task a; map a 0 2 zero rw; put a 0.0 = x; put a 1.0 = y; '
        self.assertEqual(seen(front + 'move a 0 2 to 2; show a 0.0; show a 2.0; show a 3.0'),
                         [None, form(0, (X, 1)), form(0, (Y, 1))])
        for move in ('move a 0 2 to 1', 'move a 0 2 to 0', 'move a 1 1 to 0', 'move a 0 2 to 3', 'move a 0 3 to 3',
                     'move a 1 2 to 2', 'move a 2 1 to 3', 'move a 0 1 to 4', 'move b 0 1 to 2', 'move a 0 1 to 0'):
            self.assertEqual(refused(front + move), [4], move)
            self.assertEqual(seen(front + move + '; show a 0.0; show a 1.0; show a 2.0'),
                             [form(0, (X, 1)), form(0, (Y, 1)), None])
        # The leaf that moves ahead of the next one does not make it mapped.
        self.assertEqual(refused('task a; map a 0 1 zero r; move a 0 2 to 1; show a 0.0; show a 1.0'), [2, 4])
        self.assertEqual(refused('task a; map a 2 2 zero r; move a 2 2 to 1; move a 2 2 to 0; show a 0.0; show a 1.0'),
                         [2])
        self.assertEqual(seen('file f 1; file g 1; task a; map a 0 1 common f 0 rw; move a 0 1 to 3; put a 3.0 = x; '
                              'map a 0 1 apart f 0 r; show a 0.0'), [form(0, (X, 1))])

    def test_puts(self):
        front = 'file f 2; task a; map a 0 1 zero rw; map a 1 1 apart f 0 rw; map a 2 1 common f 0 rw; '
        behind = '; show a 0.0; show a 1.0; show a 2.0'
        first = form(0, (('file', 'f', 0, 0), 1))
        self.assertEqual(seen(front + 'put a 0.0 = x' + behind), [form(0, (X, 1)), first, first])
        self.assertEqual(seen(front + 'put a 1.0 = x' + behind), [form(0), form(0, (X, 1)), first])
        self.assertEqual(seen(front + 'put a 2.0 = x' + behind), [form(0), form(0, (X, 1)), form(0, (X, 1))])
        self.assertEqual(seen(front + 'put a 1.0 = y; put a 2.0 = x' + behind),
                         [form(0), form(0, (Y, 1)), form(0, (X, 1))])

    def test_other_cells_of_a_leaf(self):
        front = 'file f 1; task a; map a 0 1 apart f 0 rw; map a 1 1 common f 0 rw; '
        text = front + 'put a 0.1 = x; cut f 0; show a 0.0; show a 0.1; show a 1.0'
        self.assertEqual(seen(text, 4, 2), [form(0, (('file', 'f', 0, 0), 1)), form(0, (X, 1)), None])
        text = front + 'put a 1.0 = 4; show a 0.0; show a 0.1'
        self.assertEqual(seen(text, 4, 2), [form(4), form(0, (('file', 'f', 0, 1), 1))])

    def test_refused_puts(self):
        front = 'file f 1; task a; map a 0 1 zero rw; map a 1 1 zero r; map a 2 2 common f 0 rw; '
        for put in ('put b 0.0 = 1', 'put a 0.1 = 1', 'put a 1.0 = 1', 'put a 3.0 = 1', 'put a 4.0 = 1',
                    'put a 0.0 = b 0.0', 'put a 0.0 = 0 b 0.0', 'put a 0.0 = a 0.1', 'put a 0.0 = a 3.0',
                    'put a 0.0 = x + 0 a 3.0', 'put a 0.0 = a 4.0', 'put a 0.0 = a 0.0 + a 999.999'):
            self.assertEqual(refused(front + put), [5], put)
            self.assertEqual(seen(front + put + '; show a 0.0'), [form(0)])
        # Terms need no right to be put into.
        self.assertEqual(refused(front + 'put a 0.0 = a 1.0'), [])

    def test_totals(self):
        front = 'task a; map a 0 4 zero rw; put a 0.0 = 3 + 2 x; put a 1.0 = 5 - x; '
        self.assertEqual(seen(front + 'put a 2.0 = a 0.0 + 2 a 1.0 - 13; show a 2.0'), [form(0)])
        self.assertEqual(seen(front + 'put a 0.0 = a 0.0 + a 0.0 + a 1.0; show a 0.0'), [form(11, (X, 3))])
        self.assertEqual(seen(front + 'put a 2.0 = 0 x + 0 a 0.0 + y - y + y - 4 + 1; show a 2.0'),
                         [form(-3, (Y, 1))])
        self.assertEqual(seen(front + 'put a 2.0 = x - x; show a 2.0'), [form(0)])
        self.assertEqual(seen(front + 'put a 2.0 = y + x + x; show a 2.0'), [form(0, (X, 2), (Y, 1))])

    def test_order_of_unknowns(self):
        text = 'file g 2; file f 11; task a; map a 0 1 zero rw; map a 1 1 apart g 1 r; map a 2 1 apart f 10 r; ' \
               'map a 3 1 apart f 9 r; put a 0.0 = x + b + a 1.1 + a 1.0 + a 2.0 + a 3.1; show a 0.0'
        unknowns = [('file', 'f', 9, 1), ('file', 'f', 10, 0), ('file', 'g', 1, 0), ('file', 'g', 1, 1),
                    ('input', 'b'), X]
        self.assertEqual(seen(text, 4, 2), [form(0, *[(unknown, 1) for unknown in unknowns])])
        self.assertEqual(inputs_of(told(text, 4, 2)), [unknowns])

    def test_shows(self):
        text = 'show a 0.0; task a; show a 0.0; map a 0 1 zero r; show a 0.0; show a 0.1; show a 0.2; show a 1.0'
        self.assertEqual(seen(text, 4, 2), [None, None, form(0), form(0), None, None])
        self.assertEqual(refused(text, 4, 2), [0, 2, 6, 7])


class RunsTest(unittest.TestCase):

    def test_example(self):
        text = 'file f 1; task a; map a 0 1 apart f 0 rw; fork a b; put a 0.0 = 2 b 0.0 + x; show a 0.0; ' \
               'show b 0.0; show b 1.0'
        script = told(text)
        self.assertEqual(run(script).seen[0], (0, ((('file', 'f', 0, 0), 2), (('input', 'x'), 1))))
        self.assertEqual(run(script).refused, [7])
        self.assertEqual(shown(script, {('input', 'x'): 5, ('file', 'f', 0, 0): 10}), [25, 10, None])
        self.assertEqual(inputs_of(script), [[('file', 'f', 0, 0), ('input', 'x')], [('file', 'f', 0, 0)], None])

    def test_against_the_model(self):
        for seed in range(1500):
            maker = Maker(seed, 1 + seed % 5, 1 + seed % 4)
            script = Script(maker.leaves, maker.cells, maker.steps(seed % 40))
            forms = seen_of(script)
            outcome = run(script)
            self.assertEqual((outcome.seen, outcome.refused), (forms, refused_of(script)), script.steps)
            values = {X: seed - 700, ('file', 'f', 0, 0): 13, ('file', 'g', 2, 1): -5}
            self.assertEqual(shown(script, values), [number_of(one, values) for one in forms])
            self.assertEqual(inputs_of(script),
                             [None if one is None else [unknown for unknown, _ in one[1]] for one in forms])

    def test_long_script(self):
        steps = [('task', 'a'), ('map', 'a', 0, 64, ('zero',), 'rw'), ('put', 'a', 0, 0, (('input', 'x', 1),))]
        steps += [('put', 'a', 0, 0, (('cell', 'a', 0, 0, 1),) * 8)] * 296
        script = Script(64, 1, steps + [('show', 'a', 0, 0)])
        self.assertEqual(run(script).seen, [(0, ((X, 8 ** 296),))])
        self.assertEqual(shown(script, {X: 3}), [3 * 8 ** 296])

    def test_without_steps(self):
        script = Script(1, 1, [])
        self.assertEqual((run(script).seen, run(script).refused), ([], []))
        self.assertEqual((shown(script, {}), inputs_of(script)), ([], []))

    def test_outcomes(self):
        script = told('show a 0.0')
        self.assertIsInstance(run(script), Outcome)
        self.assertEqual(run(script), run(script))
        self.assertNotEqual(run(script), run(told('task a')))
        self.assertNotEqual(run(script), None)
        self.assertNotEqual(Outcome([None], [0]), Outcome([None], [1]))
        self.assertNotEqual(Outcome([None], [0]), Outcome([(0, ())], [0]))
        self.assertEqual(Outcome([None], [0]), Outcome((None,), (0,)))
        run(script).seen.append(5)
        self.assertEqual(run(script).seen, [None])

    def test_values(self):
        script = told('task a; map a 0 1 zero rw; put a 0.0 = 2 x; show a 0.0')
        self.assertEqual(shown(script, {}), [0])
        self.assertEqual(shown(script, {X: -4, Y: 7, ('file', 'f', 999, 999): 3, ('input', 'abcdefgh'): 1}), [-8])
        for values in (None, [], (), 5, 'x', {5: 1}, {'x': 1}, {X: 1.0}, {X: True}, {X: None}, {X: '1'},
                       {('input',): 1}, {('input', 'X'): 1}, {('input', ''): 1}, {('input', 'abcdefghi'): 1},
                       {('input', 5): 1}, {('input', 'x', 1): 1}, {('inputs', 'x'): 1}, {('file', 'f', 0): 1},
                       {('file', 'f', 0, 1000): 1}, {('file', 'f', -1, 0): 1}, {('file', 'f', 0, False): 1},
                       {('file', 5, 0, 0): 1}, {('cell', 'f', 0, 0): 1}, {X: 1, None: 1}, {(): 1}):
            with self.assertRaises(BadValues):
                shown(script, values)

    def test_no_script(self):
        for call in (run, inputs_of, lambda one: shown(one, {}), lambda one: shown(one, None)):
            for wrong in (None, 5, [], 'space 1 leaves 1 cells', ('task', 'a')):
                with self.assertRaises(BadScript) as caught:
                    call(wrong)
                self.assertIsNone(caught.exception.place)

    def test_arguments_are_neither_changed_nor_kept(self):
        script = told('task a; map a 0 1 zero rw; put a 0.0 = 2 x; show a 0.0')
        before = script.steps
        values = {Y: 1, X: 2}
        shown(script, values)
        run(script)
        self.assertEqual((script.steps, list(values.items())), (before, [(Y, 1), (X, 2)]))


if __name__ == '__main__':
    unittest.main()
