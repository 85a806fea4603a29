"""Values as objects, and their texts: [21]."""

import random
import unittest

from tests.test_forms import BAD, NO_UNKNOWNS
from twinleaves.errors import BadGiven, BadValues
from twinleaves.forms import Form
from twinleaves.givens import Given, read_given

X, Y = ('input', 'x'), ('input', 'y')
F = ('file', 'f', 0, 1)


class GivenTest(unittest.TestCase):

    def test_example(self):
        one = read_given('x = 5\nf 0.1 = - 2')
        number = one.drop(X)
        other = one | Given({Y: 1}, spare=9)
        self.assertEqual([number, other.pairs(), other((3, ((Y, 4),))), other[X], X in one], [5, {F: -2, Y: 1}, 7, 9, False])

    def test_items(self):
        one = Given({X: 5, F: -2}, spare=4)
        self.assertEqual([one[X], one[F], one[Y], one.spare, len(one)], [5, -2, 4, 4, 2])
        one[Y] = 10 ** 30
        one[X] = 0
        self.assertEqual([one[X], one[Y], len(one), X in one, ('input', 'z') in one], [0, 10 ** 30, 3, True, False])
        self.assertEqual([one.drop(X), one[X], len(one), X in one], [0, 4, 2, False])
        one.spare = -1
        self.assertEqual([one[X], one((0, ((X, 3),)))], [-1, -3])
        self.assertEqual([len(Given()), Given()[X], Given().spare, Given(None, spare=2)[X], len(Given({}))], [0, 0, 0, 2, 0])

    def test_wrong_items(self):
        one = Given({X: 5, F: 1, ('file', 'f', 1, 0): 3})
        for wrong in NO_UNKNOWNS:
            with self.assertRaises(BadValues):
                one[wrong] = 1
            with self.assertRaises(BadValues):
                one.drop(wrong)
            self.assertIs(wrong in one, False)
        for number in (True, False, None, '1', 1.0, (1,), Form.of(1)):
            with self.assertRaises(BadValues):
                one[X] = number
        with self.assertRaises(BadValues):
            one.drop(Y)
        self.assertEqual(one, Given({X: 5, F: 1, ('file', 'f', 1, 0): 3}))

    def test_wrong_values(self):
        for wrong in ([], (), 5, 'x', {5: 1}, {X: True}, {X: None}, {('input', 'X'): 1}, {X: 1, Y: 1.0}, Given()):
            for spare in (0, None):
                with self.assertRaises(BadValues):
                    Given(wrong, spare=spare)
        for spare in (True, None, '1', 1.0, (1,)):
            with self.assertRaises(BadValues):
                Given({X: 1}, spare=spare)

    def test_copies(self):
        told = {Y: 1, X: 2}
        one = Given(told)
        told[X] = 9
        pairs = one.pairs()
        pairs[X] = 8
        self.assertEqual((one[X], list(one.pairs()), one.pairs()), (2, [X, Y], {X: 2, Y: 1}))
        self.assertEqual(list(Given({X: 1, ('file', 'g', 0, 0): 2, F: 3}).pairs()), [F, ('file', 'g', 0, 0), X])

    def test_like_ones(self):
        self.assertEqual(Given({X: 1, Y: 2}), Given({Y: 2, X: 1}))
        for other in (Given({X: 1}), Given({X: 1, Y: 3}), Given({X: 1, Y: 2}, spare=1), {X: 1, Y: 2}, None):
            self.assertNotEqual(Given({X: 1, Y: 2}), other)
        self.assertNotEqual(Given(), Given({X: 0}))

    def test_joined(self):
        one, other = Given({X: 1, Y: 2}, spare=3), Given({Y: 5, F: 7}, spare=4)
        self.assertEqual([one | other, other | one], [Given({X: 1, Y: 5, F: 7}, spare=4), Given({X: 1, Y: 2, F: 7}, spare=3)])
        self.assertEqual((one, other), (Given({X: 1, Y: 2}, spare=3), Given({Y: 5, F: 7}, spare=4)))
        found = one | Given()
        found[X] = 9
        self.assertEqual((one[X], found.spare), (1, 0))
        self.assertRaises(TypeError, lambda: one | 5)

    def test_numbers(self):
        one = Given({X: 5, F: -2}, spare=10)
        for form, number in (((3, ()), 3), ((1, ((X, 2),)), 11), ((0, ((F, 1), (X, -1), (Y, 3))), 23), ((0, ()), 0)):
            self.assertEqual([one(form), one(Form(form))], [number, number])
        for wrong in BAD + (True, X):
            with self.assertRaises(BadValues):
                one(wrong)


class ReadGivenTest(unittest.TestCase):

    def test_texts(self):
        for text, pairs in (('', {}), ('\n \n# x = 5\n   # 7', {}), ('x = 5', {X: 5}), ('x=5', {X: 5}), ('  x  =  5  ', {X: 5}),
                            ('x = - 5', {X: -5}), ('x=-5', {X: -5}), ('x = -0', {X: 0}), ('x = 0', {X: 0}),
                            ('f 0.1 = 7', {F: 7}), ('f0.1=7', {F: 7}), (' f  0 . 1  =  -  7 ', {F: 7 * -1}),
                            ('x = 1\nx = 2\ny = 3\nx = 4', {X: 4, Y: 3}), ('f 0.1 = 1\n\n#\nf 0.1 = 2\n', {F: 2}),
                            ('abcdefgh 999.999 = 1', {('file', 'abcdefgh', 999, 999): 1}),
                            ('x = 1' + 300 * '0', {X: 10 ** 300}), ('file = 1\ninput = 2', {('input', 'file'): 1,
                                                                                            ('input', 'input'): 2})):
            self.assertEqual(read_given(text), Given(pairs), text)

    def test_wrong_texts(self):
        for text, line, column in (('x', 1, 2), ('x ', 1, 3), ('x =', 1, 4), ('x = -', 1, 6), ('x = 05', 1, 5), ('x = 00', 1, 5),
                                   ('x = 5 6', 1, 7), ('x = 5 #', 1, 7), ('x = + 5', 1, 5), ('x = - - 5', 1, 7), ('5 = x', 1, 1),
                                   ('= 5', 1, 1), ('X = 5', 1, 1), ('abcdefghi = 5', 1, 1), ('x 0 = 5', 1, 5), ('x 0. = 5', 1, 6),
                                   ('x 0.1', 1, 6), ('x 0.', 1, 5), ('x 00.1 = 5', 1, 3), ('x 0.01 = 5', 1, 5), ('x 1000.0 = 5', 1, 3),
                                   ('x 0.1000 = 5', 1, 5), ('x 0.1.2 = 5', 1, 6), ('x y = 5', 1, 3), ('x = y', 1, 5),
                                   ('x = 5x', 1, 6), ('\n# a\nx = 5\ny = z\nx', 4, 5), ('x = 5\n  y', 2, 4), ('x\t= 5', 1, 2),
                                   ('x = 5\r', 1, 6), ('x.1 = 5', 1, 2), ('x == 5', 1, 4), ('x = 5; y = 6', 1, 6), ('x = 5.0', 1, 6),
                                   ('\u00e9 = 5', 1, 1), ('x = \u0665', 1, 5), ('x = 1\n \t', 2, 2), ('x 0.1 =', 1, 8)):
            with self.assertRaises(BadGiven) as caught:
                read_given(text)
            self.assertEqual((caught.exception.line, caught.exception.column), (line, column), text)

    def test_no_texts(self):
        for wrong in (None, 5, b'x = 5', ['x = 5'], {}, True, Given()):
            with self.assertRaises(BadGiven) as caught:
                read_given(wrong)
            self.assertEqual((caught.exception.line, caught.exception.column), (0, 0))

    def test_drawn_texts(self):
        dice = random.Random(5)
        for _ in range(200):
            pairs, rows = {}, []
            for _ in range(dice.randint(0, 6)):
                unknown = dice.choice([X, Y, F, ('file', 'g', 12, 3)])
                pairs[unknown] = dice.randint(-20, 20)
                blank = ' ' * dice.randint(0, 2)
                front = unknown[1] if len(unknown) == 2 else f'{unknown[1]}{blank}{unknown[2]}{blank}.{blank}{unknown[3]}'
                rows.append(f'{blank}{front}{blank}={blank}{pairs[unknown]}{blank}'.replace('-', '-' + blank))
                rows += [dice.choice(['', blank, blank + '# x = 9'])] * dice.randint(0, 1)
            self.assertEqual(read_given('\n'.join(rows)), Given(pairs), rows)

    def test_texts_of_forms(self):
        for unknown in (X, F, ('file', 'abcdefgh', 999, 0)):
            text = Form((0, ((unknown, 1),))).text()
            self.assertEqual(read_given(f'{text} = 3').pairs(), {unknown: 3})


if __name__ == '__main__':
    unittest.main()
