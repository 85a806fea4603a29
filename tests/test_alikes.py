"""Whether scripts are alike: [5]."""

import unittest

from tests.model import Maker, number_of, seen_of
from twinleaves.alikes import Unlike, unlike
from twinleaves.errors import BadScript, BadValues
from twinleaves.reading import read_script
from twinleaves.scripts import Script

X, Y = ('input', 'x'), ('input', 'y')
HEAD = 'task a; map a 0 2 zero rw; put a 0.0 = x; '


def told(text, leaves=4, cells=1):
    return read_script(f'space {leaves} leaves {cells} cells\n' + text.replace('; ', '\n'))


def first_difference(one, other, values):
    """The first show at which two scripts differ for values, by the model; None if they do not."""
    ours = [number_of(form, values) for form in seen_of(one)]
    theirs = [number_of(form, values) for form in seen_of(other)]
    for place in range(max(len(ours), len(theirs))):
        if ours[place:place + 1] != theirs[place:place + 1]:
            return place
    return None


class AlikesTest(unittest.TestCase):

    def test_example(self):
        one, other = told(HEAD + 'show a 0.0'), told(HEAD + 'put a 1.0 = 1; show a 0.0')
        self.assertIsNone(unlike(one, other))
        self.assertEqual(unlike(one, told(HEAD + 'show a 1.0')).place, 0)

    def test_alike(self):
        for one, other in (('', ''), ('show a 0.0', 'show b 3.1'), ('task a', ''),
                           (HEAD + 'show a 0.0', 'task b; map b 3 1 zero rw; put b 3.0 = 2 x - x; show b 3.0'),
                           (HEAD + 'put a 0.0 = a 0.0 + y; put a 0.0 = a 0.0 - y; show a 0.0', HEAD + 'show a 0.0')):
            self.assertIsNone(unlike(told(one), told(other)), one)

    def test_unlike(self):
        for one, other, place in (('show a 0.0', '', 0), (HEAD + 'show a 0.0; show a 0.0', HEAD + 'show a 0.0', 1),
                                  (HEAD + 'show a 0.0', HEAD + 'show a 2.0', 0),
                                  (HEAD + 'show a 0.0; show a 1.0', HEAD + 'show a 0.0; show a 0.0', 1),
                                  (HEAD + 'show a 1.0; show a 1.0', HEAD + 'show a 1.0; put a 1.0 = 1; show a 1.0', 1),
                                  (HEAD + 'put a 0.0 = x + 1; show a 0.0', HEAD + 'show a 0.0', 0),
                                  (HEAD + 'put a 0.0 = y; show a 0.0', HEAD + 'show a 0.0', 0),
                                  (HEAD + 'put a 0.0 = 2 x; show a 0.0', HEAD + 'show a 0.0', 0),
                                  (HEAD + 'put a 0.0 = x + y; show a 0.0', HEAD + 'show a 0.0', 0)):
            for first, second in ((one, other), (other, one)):
                found = unlike(told(first), told(second))
                self.assertEqual(found.place, place, one)
                self.assertEqual(first_difference(told(first), told(second), found.given), place)
                self.assertTrue(found.shows(told(first), told(second)))

    def test_against_the_model(self):
        count = 0
        for seed in range(900):
            maker = Maker(seed, 2, 1 + seed % 2)
            steps = maker.steps(5 + seed % 25)
            one = Script(2, 1 + seed % 2, steps)
            at = maker.number(0, len(steps) - 1)
            behind = maker.step(['put', 'show', 'map', 'cut', 'fork'])
            other = one + [behind] if seed % 3 == 0 else Script(2, 1 + seed % 2, steps[:at] + steps[at + 1:])
            found = unlike(one, other)
            self.assertEqual(found is None, seen_of(one) == seen_of(other))
            self.assertEqual(found, unlike(one, other))
            if found is not None:
                count += 1
                self.assertIs(found.shows(one, other), True)
                self.assertEqual(first_difference(one, other, found.given), found.place)
                self.assertEqual(list(found.given), sorted(found.given))
                for place in (found.place - 1, found.place + 1, -1, 10 ** 20):
                    self.assertIs(Unlike(found.given, place).shows(one, other), False)
                self.assertIs(found.shows(one, one), False)
                for values in ({}, {X: 1}, {X: 2, Y: -3, ('file', 'f', 0, 0): 5}):
                    place = first_difference(one, other, values)
                    self.assertIs(Unlike(values, found.place).shows(one, other), place == found.place)
        self.assertGreater(count, 150)

    def test_long_scripts(self):
        steps = [('task', 'a'), ('map', 'a', 0, 1, ('zero',), 'rw')]
        steps += [('put', 'a', 0, 0, (('cell', 'a', 0, 0, 2), ('input', 'x', 1)))] * 297
        one = Script(64, 4, steps + [('show', 'a', 0, 0)])
        other = Script(64, 4, steps[:2] + [('put', 'a', 0, 0, (('input', 'x', 2 ** 297 - 1),)), ('show', 'a', 0, 0)])
        self.assertIsNone(unlike(one, other))
        other = Script(64, 4, steps[:2] + [('put', 'a', 0, 0, (('input', 'x', 2 ** 297),)), ('show', 'a', 0, 0)])
        self.assertTrue(unlike(one, other).shows(one, other))


class UnlikeTest(unittest.TestCase):

    def test_as_evidence(self):
        given = {Y: 2, X: 1}
        one = Unlike(given, 3)
        given[X] = 5
        self.assertEqual((one.given, one.place), ({X: 1, Y: 2}, 3))
        self.assertEqual(one, Unlike({X: 1, Y: 2}, 3))
        for other in (Unlike({X: 1, Y: 2}, 4), Unlike({X: 1}, 3), None, 3, ({X: 1, Y: 2}, 3)):
            self.assertNotEqual(one, other)
        first, second = told(HEAD + 'show a 0.0'), told(HEAD + 'show a 1.0')
        found = unlike(first, second)
        self.assertTrue(found.shows(first, second))
        found.given = {X: 0}
        self.assertFalse(found.shows(first, second))
        found.given[X] = -1
        self.assertTrue(found.shows(first, second))
        found.place = 1
        self.assertFalse(found.shows(first, second))

    def test_wrong_values(self):
        one = told('show a 0.0')
        for given in (None, [], 5, {5: 1}, {X: True}, {X: 1.5}, {('input', 'X'): 1}, {('file', 'f', 0): 1}):
            with self.assertRaises(BadValues):
                Unlike(given, 0).shows(one, one)

    def test_no_scripts(self):
        one = told('show a 0.0')
        for call in (unlike, Unlike({}, 0).shows, Unlike(None, 0).shows):
            for pair in ((None, one), (one, 5), (one, 'text'), ([], []), (one, told('show a 0.0', 5)),
                         (one, told('show a 0.0', 4, 2))):
                with self.assertRaises(BadScript) as caught:
                    call(*pair)
                self.assertIsNone(caught.exception.place)


if __name__ == '__main__':
    unittest.main()
