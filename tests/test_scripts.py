"""Steps and scripts: [2], and [1] where it tells of them."""

import unittest

from tests.model import Maker
from twinleaves.errors import BadScript
from twinleaves.scripts import Script, is_step

GOOD = [
    ('task', 'a'), ('task', 'abcdefgh'), ('end', 'z'), ('fork', 'a', 'b'), ('fork', 'a', 'a'),
    ('file', 'f', 0), ('file', 'f', 64), ('cut', 'f', 0), ('cut', 'f', 64),
    ('map', 'a', 0, 1, ('zero',), 'r'), ('map', 'a', 999, 64, ('zero',), 'rw'),
    ('map', 'a', 0, 64, ('apart', 'f', 0), 'r'), ('map', 'a', 0, 1, ('common', 'f', 63), 'rw'),
    ('map', 'a', 0, 2, ('apart', 'f', 62), 'r'),
    ('unmap', 'a', 999, 64), ('guard', 'a', 0, 1, 'rw'), ('guard', 'a', 0, 1, 'r'),
    ('move', 'a', 0, 64, 999), ('move', 'a', 0, 1, 0),
    ('put', 'a', 999, 999, (('number', 0),)), ('put', 'a', 0, 0, (('number', -10 ** 30),) * 8),
    ('put', 'a', 0, 0, (('input', 'x', 0), ('cell', 'b', 999, 999, -7), ('input', 'abcdefgh', 1))),
    ('show', 'a', 0, 0), ('show', 'a', 999, 999),
]

WRONG = [
    None, 5, 'task', b'task', [], (), ['task', 'a'], {'task': 'a'}, ('task',), ('task', 'a', 'b'), ('Task', 'a'),
    (['task'], 'a'), (None, 'a'), (5, 'a'), ('tasks', 'a'), ('', 'a'),
    ('task', ''), ('task', 'abcdefghi'), ('task', 'A'), ('task', 'a1'), ('task', 'a b'), ('task', '\u00e9'),
    ('task', 5), ('task', None), ('task', b'a'), ('task', ('a',)), ('task', ['a']), ('fork', 'a'),
    ('file', 'f', -1), ('file', 'f', 65), ('file', 'f', True), ('file', 'f', 1.0), ('file', 'f', '1'),
    ('cut', 'f', 65), ('cut', 'f', False), ('cut', 5, 1),
    ('map', 'a', 0, 0, ('zero',), 'r'), ('map', 'a', 0, 65, ('zero',), 'r'), ('map', 'a', 1000, 1, ('zero',), 'r'),
    ('map', 'a', -1, 1, ('zero',), 'r'), ('map', 'a', True, 1, ('zero',), 'r'),
    ('map', 'a', 0, True, ('zero',), 'r'), ('map', 'a', 0, 1, ['zero'], 'r'), ('map', 'a', 0, 1, 'zero', 'r'),
    ('map', 'a', 0, 1, ('zero', 'f', 0), 'r'), ('map', 'a', 0, 1, ('apart',), 'r'), ('map', 'a', 0, 1, (), 'r'),
    ('map', 'a', 0, 1, ('apart', 'f'), 'r'), ('map', 'a', 0, 1, ['apart', 'f', 0], 'r'),
    ('map', 'a', 0, 1, ('other', 'f', 0), 'r'), ('map', 'a', 0, 1, ('apart', 'F', 0), 'r'),
    ('map', 'a', 0, 1, ('apart', 'f', -1), 'r'), ('map', 'a', 0, 1, ('apart', 'f', False), 'r'),
    ('map', 'a', 0, 1, (['apart'], 'f', 0), 'r'), ('map', 'a', 0, 2, ('apart', 'f', 63), 'r'),
    ('map', 'a', 0, 1, ('common', 'f', 64), 'r'), ('map', 'a', 0, 64, ('common', 'f', 1), 'r'),
    ('map', 'a', 0, 1, ('zero',), 'w'), ('map', 'a', 0, 1, ('zero',), ''), ('map', 'a', 0, 1, ('zero',), ['r']),
    ('map', 'a', 0, 1, ('zero',), None), ('map', 'a', 0, 1, ('zero',)),
    ('unmap', 'a', 0), ('unmap', 'a', 0, 0), ('unmap', 'a', 0, 65), ('unmap', 'a', 1000, 1),
    ('guard', 'a', 0, 1, 'wr'), ('guard', 'a', 0, 0, 'r'), ('guard', 'a', 0, 1),
    ('move', 'a', 0, 1, -1), ('put', 'a', -1, 0, (('number', 1),)), ('put', 'a', 0, -1, (('number', 1),)),
    ('put', 'a', 0, 0, (('numbers', 1),)), ('put', 'a', 0, 0, (('output', 'x', 1),)), ('put', 'a', 0, 0, ((5,),)),
    ('put', 'a', 0, 0, (('sell', 'b', 0, 0, 1),)), ('put', 'a', 0, 0, (('cell', 'b', 0, 0, 1, 1),)),
    ('put', 'a', 0, 0, (('cell', 'b', -1, 0, 1),)), ('put', 'a', 0, 0, (('cell', 'b', 0, -1, 1),)),
    ('map', 'a', 0, 1, (['zero'],), 'r'), ('map', 'a', 0, 1, (5, 'f', 0), 'r'),
    ('move', 'a', 0, 1), ('move', 'a', 0, 1, 1000), ('move', 'a', 0, 0, 1), ('move', 'a', 0, 1, None),
    ('put', 'a', 0, 0, ()), ('put', 'a', 0, 0, (('number', 1),) * 9), ('put', 'a', 0, 0, [('number', 1)]),
    ('put', 'a', 1000, 0, (('number', 1),)), ('put', 'a', 0, 1000, (('number', 1),)),
    ('put', 'a', 0, True, (('number', 1),)), ('put', 'a', 0, 0, (['number', 1],)), ('put', 'a', 0, 0, ('number', 1)),
    ('put', 'a', 0, 0, (('number', True),)), ('put', 'a', 0, 0, (('number', 1.5),)), ('put', 'a', 0, 0, (('number',),)),
    ('put', 'a', 0, 0, (('number', 1, 1),)), ('put', 'a', 0, 0, (('input', 'x'),)),
    ('put', 'a', 0, 0, (('input', 'x', False),)), ('put', 'a', 0, 0, (('input', 'X', 1),)),
    ('put', 'a', 0, 0, (('input', 5, 1),)), ('put', 'a', 0, 0, (('cell', 'a', 0, 0),)),
    ('put', 'a', 0, 0, (('cell', 'a', 1000, 0, 1),)), ('put', 'a', 0, 0, (('cell', 'a', 0, 1000, 1),)),
    ('put', 'a', 0, 0, (('cell', 'a', 0, 0, True),)), ('put', 'a', 0, 0, (('cell', 'a', True, 0, 1),)),
    ('put', 'a', 0, 0, (('cell', 1, 0, 0, 1),)), ('put', 'a', 0, 0, ((),)), ('put', 'a', 0, 0, (None,)),
    ('put', 'a', 0, 0), ('show', 'a', 0), ('show', 'a', 0, -1), ('show', 'a', 0, 1000), ('show', 'a', 0, False),
]


class StepTest(unittest.TestCase):

    def test_steps(self):
        for step in GOOD:
            self.assertIs(is_step(step), True, step)

    def test_no_steps(self):
        for thing in WRONG:
            self.assertIs(is_step(thing), False, thing)

    def test_made_steps(self):
        maker = Maker(1)
        self.assertTrue(all(is_step(step) for step in maker.steps(300)))


class ScriptTest(unittest.TestCase):

    def wrong(self, place, make, *told):
        with self.assertRaises(BadScript) as caught:
            make(*told)
        self.assertEqual(caught.exception.place, place)

    def test_attributes(self):
        steps = [('task', 'a'), ('show', 'a', 0, 0)]
        script = Script(64, 4, steps)
        steps.append(('end', 'a'))
        self.assertEqual((script.leaves, script.cells), (64, 4))
        self.assertEqual(script.steps, (('task', 'a'), ('show', 'a', 0, 0)))
        self.assertIs(type(script.steps), tuple)
        self.assertEqual(Script(1, 1, ()).steps, ())

    def test_layouts(self):
        for leaves, cells in ((0, 1), (65, 1), (-1, 1), (1, 0), (1, 5), (True, 1), (1, True), (1.0, 1), ('1', 1),
                              (None, 1), (1, None)):
            self.wrong(None, Script, leaves, cells, [])
        # The layout is judged first.
        self.wrong(None, Script, 65, 1, [5])

    def test_number_of_steps(self):
        self.assertEqual(len(Script(1, 1, [('task', 'a')] * 300)), 300)
        self.wrong(None, Script, 1, 1, [('task', 'a')] * 301)
        self.wrong(None, Script, 1, 1, [5] * 301)
        for steps in (None, 5, 'task', {}, {('task', 'a')}, iter([])):
            self.wrong(None, Script, 1, 1, steps)

    def test_first_wrong_step(self):
        for thing in WRONG:
            self.wrong(2, Script, 4, 2, [GOOD[0], GOOD[1], thing, 5])

    def test_equal(self):
        one = Script(4, 2, [('task', 'a')])
        self.assertEqual(one, Script(4, 2, (('task', 'a'),)))
        for other in (Script(5, 2, [('task', 'a')]), Script(4, 1, [('task', 'a')]), Script(4, 2, []), None, 5,
                      (('task', 'a'),)):
            self.assertFalse(one == other)
            self.assertTrue(one != other)

    def test_as_a_row(self):
        script = Script(4, 2, GOOD)
        self.assertEqual(len(script), len(GOOD))
        self.assertEqual(list(script), GOOD)
        self.assertIn(('cut', 'f', 0), script)
        for thing in (('cut', 'f', 1), ['cut', 'f', 0], ('cut', 'f', False), None, 5):
            self.assertNotIn(thing, script)
        self.assertNotIn(('file', 'f', True), Script(1, 1, [('file', 'f', 1)]))

    def test_sums(self):
        one, other = Script(4, 2, GOOD[:2]), Script(4, 2, GOOD[2:5])
        self.assertEqual(one + other, Script(4, 2, GOOD[:5]))
        self.assertEqual(one + GOOD[2:5], Script(4, 2, GOOD[:5]))
        self.assertEqual(one + tuple(GOOD[2:5]), Script(4, 2, GOOD[:5]))
        self.assertEqual(GOOD[:2] + other, Script(4, 2, GOOD[:5]))
        self.assertEqual(tuple(GOOD[:2]) + other, Script(4, 2, GOOD[:5]))
        self.assertEqual((one, other), (Script(4, 2, GOOD[:2]), Script(4, 2, GOOD[2:5])))
        self.assertEqual(one + [], one)

    def test_wrong_sums(self):
        one = Script(4, 2, GOOD[:2])
        for other in (Script(5, 2, []), Script(4, 1, [])):
            self.wrong(None, lambda: one + other)
            self.wrong(None, lambda: other + one)
        for other in (None, 5, 'task', {}, iter([])):
            self.wrong(None, lambda: one + other)
            self.wrong(None, lambda: other + one)
        self.wrong(3, lambda: one + [GOOD[0], 5, None])
        self.wrong(1, lambda: [GOOD[0], 5, None] + one)
        self.wrong(0, lambda: (None,) + one)
        long = Script(4, 2, [GOOD[0]] * 299)
        self.assertEqual(len(long + GOOD[:1]), 300)
        self.wrong(None, lambda: long + GOOD[:2])
        self.wrong(None, lambda: [5, 5] + long)
        self.wrong(None, lambda: long + one)

    def test_times(self):
        one = Script(4, 2, GOOD[:2])
        self.assertEqual(one * 3, Script(4, 2, GOOD[:2] * 3))
        self.assertEqual(3 * one, Script(4, 2, GOOD[:2] * 3))
        self.assertEqual(one * 1, one)
        for many in (0, -1, -10 ** 30):
            self.assertEqual(one * many, Script(4, 2, []))
            self.assertEqual(many * one, Script(4, 2, []))
        self.assertEqual(len(one * 150), 300)
        for many in (151, 10 ** 30):
            self.wrong(None, lambda: one * many)
            self.wrong(None, lambda: many * one)
        self.assertEqual(Script(4, 2, []) * 10 ** 30, Script(4, 2, []))
        for many in (None, 'x', 1.5, [1], one):
            with self.assertRaises(TypeError):
                one * many
            with self.assertRaises(TypeError):
                many * one

    def test_part(self):
        script = Script(4, 2, GOOD)
        self.assertEqual(script.part(), script)
        for first in (0, 1, 5, -3, 100):
            for last in (None, 0, 4, -1, 100):
                for every in (1, 2, -1, -2):
                    part = script.part(first, last, every=every)
                    self.assertEqual(part, Script(4, 2, GOOD[first:last:every]))
        self.assertEqual(script.part(2), Script(4, 2, GOOD[2:]))


if __name__ == '__main__':
    unittest.main()
