"""Forms as objects: [21]."""

import itertools
import random
import unittest

from tests.model import number_of
from twinleaves.errors import BadForm
from twinleaves.forms import Form

X, Y = ('input', 'x'), ('input', 'y')
F, G = ('file', 'f', 0, 1), ('file', 'g', 999, 0)
BAD = (None, 5, (), (0,), [0, ()], (0, []), (True, ()), (0, (), ()), (1.0, ()), (0, ((X, 0),)), (0, ((X, True),)),
       (0, ((X, 1), (X, 1))), (0, ((X, 1), (F, 1))), (0, ([X, 1],)), (0, (('x', 1),)), (0, ((('file', 'f', True, 0), 1),)),
       'x', (0, ((('input', 'X'), 1),)), (0, (((X,), 1),)), {}, (0, ((X, 1, 1),)))
# Values that are no unknowns, some of which are equal to one or can be no keys of a dict.
NO_UNKNOWNS = (None, 5, 'x', (), ('input',), ('file', 'f', False, 1), ('file', 'f', 0, True), ('file', 'f', 0.0, 1),
               ['input', 'x'], [], {}, ('input', 'X'), ('input', ['x']), ('file', 'f', 0), ('file', 'f', 0, 1, 1))


def drawn(dice):
    rows = [(key, dice.choice([-3, -1, 1, 2, 10 ** 20])) for key in (F, G, X, Y) if dice.random() < 0.5]
    return (dice.choice([0, 0, 1, -1, 7, -10 ** 20]), tuple(rows))


def plain(*pairs):
    """The form of the sum of forms so many times, with other means."""
    sums = {}
    for (base, rows), many in pairs:
        for key, factor in ((1, base),) + rows:
            sums[key] = sums.get(key, 0) + many * factor
    return (sums.pop(1, 0), tuple(sorted((key, factor) for key, factor in sums.items() if factor)))


class FormTest(unittest.TestCase):

    def test_example(self):
        one, two = Form.named('x'), Form.named('f', 0, 1)
        found = 3 - 2 * one + two
        self.assertEqual([found.form, found.text(), found.text(compact=True), found({X: 5}), found.factor(X), one - one == 0],
                         [(3, ((F, 1), (X, -2))), 'f 0.1 - 2 x + 3', 'f 0.1-2 x+3', -7, -2, True])

    def test_attributes(self):
        told = (3, ((F, 1), (X, -2)))
        one = Form(told)
        self.assertEqual((one.form, one.base, one.rows, one.unknowns, len(one)), (told, 3, told[1], [F, X], 2))
        self.assertIs(type(one.unknowns), list)
        self.assertEqual((list(one), list(Form.of(5)), len(Form.of(5)), Form.of(5).unknowns), (list(told[1]), [], 0, []))
        self.assertEqual(Form.SIGNS, ('+', '-'))
        self.assertEqual([Form.of(n).form for n in (0, -4, 10 ** 50)], [(0, ()), (-4, ()), (10 ** 50, ())])
        self.assertEqual([Form.named('x').form, Form.named('f', 0, 1).form, Form.named('abcdefgh', 999, 999).form[1][0][0]],
                         [(0, ((X, 1),)), (0, ((F, 1),)), ('file', 'abcdefgh', 999, 999)])

    def test_no_forms(self):
        for wrong in BAD:
            with self.assertRaises(BadForm):
                Form(wrong)
        with self.assertRaises(BadForm):
            Form(Form.of(3))
        for wrong in (True, False, None, '1', 1.0, (1, ()), [], Form.of(1)):
            with self.assertRaises(BadForm):
                Form.of(wrong)
        for wrong in (('X',), ('',), (5,), (None,), ('abcdefghi',), (['x'],), ('f', 0), ('f', True, 0), ('f', 0, True),
                      ('f', -1, 0), ('f', 0, 1000), ('f', None, None), ('f', None, 0), ('f', '0', 0), ('F', 0, 0),
                      (X,), ('f', 0, None), ('f', (0,), 0), ('f', 0.0, 0), ('f', (), 0), ('f', 0, ())):
            with self.assertRaises(BadForm):
                Form.named(*wrong)
        # What is given as a leaf and a cell is never taken for nothing.
        for one, other in itertools.product([(), [], None, '', {}, 0, False, -1, 1000], repeat=2):
            if (one, other) != (0, 0) or False in (type(one) is int, type(other) is int):
                with self.assertRaises(BadForm):
                    Form.named('x', one, other)
        for wrong in ((), None, 0):
            with self.assertRaises(BadForm):
                Form.named('x', wrong)
            with self.assertRaises(BadForm):
                Form.named('x', 0, 1, wrong)
        self.assertEqual(Form.named('f', leaf=0, cell=1), Form.named('f', 0, 1))

    def test_factors(self):
        one = Form((3, ((F, 1), (X, -2))))
        self.assertEqual([one.factor(key) for key in (F, X, Y, G)], [1, -2, 0, 0])
        self.assertEqual([key in one for key in (F, X, Y, G)], [True, True, False, False])
        for wrong in NO_UNKNOWNS:
            self.assertEqual(one.factor(wrong), 0)
            self.assertIs(wrong in one, False)

    def test_like_ones(self):
        self.assertEqual(Form((3, ((X, 1),))), Form.named('x') + 3)
        for number in (0, 1, -7, 10 ** 30):
            self.assertTrue(Form.of(number) == number and number == Form.of(number))
            self.assertTrue(Form.of(number) != number + 1 and Form.named('x') + number != number)
        for other in (True, 1.0, '1', None, (1, ()), [1]):
            self.assertFalse(Form.of(1) == other or other == Form.of(1))
        self.assertFalse(Form.of(0) == False)
        self.assertNotEqual(Form.named('x'), Form.named('y'))
        self.assertNotEqual(Form.named('x'), 2 * Form.named('x'))

    def test_truth(self):
        for one, truth in ((Form.of(0), False), (Form.of(-1), True), (Form.named('x'), True), (0 * Form.named('x'), False),
                           (Form.named('x') - Form.named('x'), False), (Form.named('x') - 5, True)):
            self.assertIs(bool(one), truth)

    def test_sums(self):
        x, f = Form.named('x'), Form.named('f', 0, 1)
        for found, form in ((x + f, (0, ((F, 1), (X, 1)))), (f + x, (0, ((F, 1), (X, 1)))), (x + 3, (3, ((X, 1),))),
                            (3 + x, (3, ((X, 1),))), (x - 3, (-3, ((X, 1),))), (3 - x, (3, ((X, -1),))), (x - f - x,
                            (0, ((F, -1),))), (2 * x, (0, ((X, 2),))), (x * -2, (0, ((X, -2),))), (0 * (x + 1), (0, ())),
                            (-(x - 5), (5, ((X, -1),))), (-Form.of(0), (0, ())), (x + x, (0, ((X, 2),))), (x + 0, x.form),
                            (0 - Form.of(2), (-2, ())), (Form.of(2) * 3 + Form.of(4), (10, ()))):
            self.assertIs(type(found), Form)
            self.assertEqual(found.form, form)
        self.assertEqual((x.form, f.form), ((0, ((X, 1),)), (0, ((F, 1),))))

    def test_drawn_sums(self):
        dice = random.Random(1)
        for _ in range(400):
            one, other, many = drawn(dice), drawn(dice), dice.choice([0, 1, -1, 3, -10 ** 20])
            ours, theirs = Form(one), Form(other)
            self.assertEqual((ours + theirs).form, plain((one, 1), (other, 1)))
            self.assertEqual((ours - theirs).form, plain((one, 1), (other, -1)))
            self.assertEqual((ours + many).form, plain((one, 1), ((many, ()), 1)))
            self.assertEqual((many + ours).form, plain((one, 1), ((many, ()), 1)))
            self.assertEqual((ours - many).form, plain((one, 1), ((many, ()), -1)))
            self.assertEqual((many - ours).form, plain((one, -1), ((many, ()), 1)))
            self.assertEqual([(ours * many).form, (many * ours).form, (-ours).form],
                             [plain((one, many)), plain((one, many)), plain((one, -1))])
            self.assertEqual((ours == theirs, ours == many), (one == other, one == (many, ())))
            self.assertEqual(bool(ours), one != (0, ()))
            values = {key: dice.randint(-9, 9) for key in (F, G, X) if dice.random() < 0.6}
            self.assertEqual(ours(values), number_of(one, values))

    def test_what_is_not_added(self):
        x = Form.named('x')
        for other in (True, None, '1', 1.0, (1, ()), [1], X):
            for call in (lambda: x + other, lambda: other + x, lambda: x - other, lambda: other - x, lambda: x * other,
                         lambda: other * x):
                self.assertRaises(TypeError, call)
        self.assertRaises(TypeError, lambda: x * x)

    def test_values(self):
        one = Form((3, ((F, 1), (X, -2))))
        self.assertEqual([one({}), one({X: 5}), one({F: 1, X: 1, Y: 100}), Form.of(4)({X: 1})], [3, -7, 2, 4])

    def test_texts(self):
        for form, text, compact in (((0, ()), '0', '0'), ((5, ()), '5', '5'), ((-5, ()), '- 5', '-5'),
                                    ((0, ((X, 1),)), 'x', 'x'), ((0, ((X, -1),)), '- x', '-x'),
                                    ((0, ((X, -2), (Y, 1))), '- 2 x + y', '-2 x+y'),
                                    ((1, ((X, 2), (Y, -1))), '2 x - y + 1', '2 x-y+1'),
                                    ((-1, ((F, -1),)), '- f 0.1 - 1', '-f 0.1-1'),
                                    ((0, ((F, 3), (G, -10))), '3 f 0.1 - 10 g 999.0', '3 f 0.1-10 g 999.0'),
                                    ((-10, ((F, 1), (X, 1))), 'f 0.1 + x - 10', 'f 0.1+x-10')):
            self.assertEqual((Form(form).text(), Form(form).text(compact=True)), (text, compact))
            self.assertEqual(Form(form).text(compact=False), text)

    def test_answers_stay(self):
        one = Form.named('x') + 1
        one.unknowns.append(Y)
        self.assertEqual((one.factor(Y), len(one), (one + 1).unknowns, one.text()), (0, 1, [X], 'x + 1'))


if __name__ == '__main__':
    unittest.main()
