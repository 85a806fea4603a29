"""What integers, words, unknowns, values and forms are: [1], [2] and [4]."""

import unittest

from twinleaves.checks import is_ascending, is_form, is_given, is_integer, is_unknown, is_word

X, FILE = ('input', 'x'), ('file', 'f', 0, 3)


class ChecksTest(unittest.TestCase):

    def judge(self, call, good, wrong):
        for thing in good:
            self.assertIs(call(thing), True, thing)
        for thing in wrong:
            self.assertIs(call(thing), False, thing)

    def test_integers(self):
        self.judge(is_integer, (0, -1, 10 ** 50), (True, False, None, 1.0, '1', (1,)))

    def test_ascending(self):
        self.judge(lambda thing: is_ascending(thing, 9), ([], (), [0], (9,), [0, 1, 9], (3, 5)),
                   (None, 5, {}, '', 'ab', {0: 1}, [0, 0], [1, 0], [10], [-1], [True], [0, True], [0.0], ['0'], [None], [[0]], [3, 5, 4]))

    def test_words(self):
        self.judge(is_word, ('a', 'z', 'abcdefgh'), ('', 'abcdefghi', 'A', 'a ', 'a1', '\u00e9', None, 5, b'a', ['a'],
                                                     ('a',), 'aZ', 'a`', 'a{'))

    def test_unknowns(self):
        self.judge(is_unknown, (X, FILE, ('file', 'file', 999, 999)),
                   (None, 'x', [], (), ('input',), ['input', 'x'], ('input', 'X'), ('inputs', 'x'), ('input', 'x', 0),
                    ('file', 'f', 0), ('file', 'f', -1, 0), ('file', 'f', 0, -1), ('file', 'f', 1000, 0),
                    ('file', 'f', 0, 1000), ('file', 'f', True, 0), ('file', 'f', 0, 0, 0), ('input', 'f', 0, 0),
                    ('file', 5, 0, 0), (5, 'x'), (['input'], 'x')))

    def test_values(self):
        self.judge(is_given, ({}, {X: 0}, {FILE: -5, X: 10 ** 30}),
                   (None, [], (), {X: True}, {X: '1'}, {X: None}, {'x': 1}, {X: 1, FILE: 1.0}, {None: 1, X: 1}))

    def test_forms(self):
        self.judge(is_form, ((0, ()), (-5, ()), (0, ((X, 1),)), (3, ((FILE, -2), (X, 10 ** 30)))),
                   (None, 5, (), (0,), [0, ()], (0, []), (True, ()), (0, (), ()), (1.0, ()), (0, ((X, 0),)),
                    (0, ((X, True),)), (0, ((X, 1.5),)), (0, ((X,),)), (0, ((X, 1, 1),)), (0, ([X, 1],)), (0, (X,)),
                    (0, (('x', 1),)), (0, ((X, 1), (X, 1))), (0, ((X, 1), (FILE, 1))), (0, (5,)), (0, ((FILE, 1), None)),
                    (0, ((FILE, 1), (X, 1), (X, 2)))))


if __name__ == '__main__':
    unittest.main()
