"""What shows tell: [18]."""

import random
import time
import unittest

from tests.model import Maker, number_of, seen_of
from tests.model_more import tells_of
from twinleaves.errors import BadPlace, BadScript, BadValues
from twinleaves.reading import read_script
from twinleaves.scripts import Script
from twinleaves.telling import Hides, Tells, tells

X, Y, Z = ('input', 'x'), ('input', 'y'), ('input', 'z')
FRONT = 'task a; map a 0 4 zero rw; '


def told(text, leaves=4, cells=1):
    return read_script(f'space {leaves} leaves {cells} cells\n' + text.replace('; ', '\n'))


def showing(*totals):
    """A script that shows totals."""
    return told(FRONT + '; '.join(f'put a 0.0 = {total}; show a 0.0' for total in totals))


class TellingTest(unittest.TestCase):

    def judge(self, script, unknown, places, kind=None):
        found = tells(script, unknown, places)
        forms = [seen_of(script)[place] for place in places]
        self.assertEqual(isinstance(found, Tells), tells_of(forms, unknown))
        if kind is not None:
            self.assertIs(type(found), kind)
        self.assertIs(found.shows(script, unknown, places), True)
        self.assertEqual(found, tells(script, unknown, tuple(places)))
        if isinstance(found, Tells):
            self.judge_fractions(found, forms, unknown)
        else:
            self.assertEqual([list(found.one), list(found.other)], [sorted(found.one), sorted(found.other)])
            self.assertNotEqual(found.one.get(unknown, 0), found.other.get(unknown, 0))
            for form in forms:
                self.assertEqual(number_of(form, found.one), number_of(form, found.other))
        return found

    def judge_fractions(self, found, forms, unknown):
        self.assertEqual(len(found.factors), len(forms))
        self.assertTrue(all(type(pair) is tuple and pair[1] >= 1 for pair in found.factors))
        common, sums = 1, {}
        for pair in found.factors:
            common *= pair[1]
        for pair, form in zip(found.factors, forms):
            for key, factor in () if form is None else form[1]:
                sums[key] = sums.get(key, 0) + factor * pair[0] * common // pair[1]
        self.assertEqual({key: number for key, number in sums.items() if number}, {unknown: common})

    def test_example(self):
        script = told('task a; map a 0 1 zero rw; put a 0.0 = x + y; show a 0.0; put a 0.0 = x - y; show a 0.0')
        self.assertEqual(tells(script, X, [0, 1]).factors, [(1, 2), (1, 2)])
        self.assertIsInstance(tells(script, X, [0]), Hides)

    def test_scripts(self):
        script = showing('x', '2 y + 7', 'x + y + z', '3', '3 z - 3 x', 'y - y')
        for unknown, places, kind in ((X, [0], Tells), (X, [1], Hides), (X, [], Hides), (Y, [1], Tells), (Y, [0], Hides),
                                      (Z, [0, 1, 2], Tells), (Z, [2, 1, 0], Tells), (Z, [1, 2], Hides),
                                      (Z, [0, 2], Hides), (Z, [1, 2, 4], Tells), (X, [1, 2, 4], Tells), (X, [3, 5], Hides),
                                      (X, [3, 0, 5], Tells), (('input', 'w'), [0, 1, 2, 3, 4, 5], Hides),
                                      (('file', 'f', 0, 0), [0, 1, 2, 3, 4, 5], Hides)):
            self.judge(script, unknown, places, kind)

    def test_fractions(self):
        script = showing('4 x + 6 y', '6 x + 10 y', '0 - 9 x')
        self.assertEqual(self.judge(script, X, [0, 1], Tells).factors, [(5, 2), (-3, 2)])
        self.assertEqual(self.judge(script, Y, [1, 0], Tells).factors, [(1, 1), (-3, 2)])
        self.assertEqual(self.judge(script, X, [2], Tells).factors, [(-1, 9)])
        self.assertEqual(self.judge(showing('5'), X, []), Hides({X: 1}, {}))
        self.assertEqual(self.judge(told(''), X, []), Hides({X: 1}, {}))

    def test_refused_shows(self):
        script = told(FRONT + 'put a 0.0 = x; show a 9.0; show a 0.0; show b 0.0')
        self.assertEqual(len(self.judge(script, X, [0, 1, 2], Tells).factors), 3)
        self.judge(script, X, [0, 2], Hides)
        for pair in ((0, 1), (5, 3), (-1, 9)):
            self.assertIs(Tells([pair, (1, 1), pair]).shows(script, X, [0, 1, 2]), True)
        self.assertIs(Tells([(1, 1), (0, 1)]).shows(script, X, [0, 1]), False)

    def test_unknowns_of_files(self):
        script = told('file f 2; task a; map a 0 2 common f 0 rw; put a 0.0 = 2 a 0.0 + 3 a 1.0; show a 0.0; show a 1.0')
        first, second = ('file', 'f', 0, 0), ('file', 'f', 1, 0)
        self.assertEqual(self.judge(script, first, [0, 1], Tells).factors, [(1, 2), (-3, 2)])
        self.judge(script, second, [1], Tells)
        self.judge(script, first, [0], Hides)
        self.judge(script, second, [0], Hides)

    def test_against_the_model(self):
        counts = {Tells: 0, Hides: 0}
        for seed in range(600):
            maker = Maker(seed, 1 + seed % 3, 1 + seed % 2, inputs='xyz')
            kinds = ['put', 'put', 'put', 'show', 'show', 'move', 'fork', 'map', 'cut']
            front = [('task', 'a'), ('file', 'f', 3)]
            way = maker.pick([('zero',), ('apart', 'f', 0), ('common', 'f', 0)])
            front.append(('map', 'a', 0, maker.leaves, way, 'rw'))
            script = Script(maker.leaves, maker.cells, front + maker.steps(4 + seed % 40, kinds)[3:])
            many = len(seen_of(script))
            places = [place for place in range(many) if maker.number(0, 2)]
            maker.dice.shuffle(places)
            for unknown in (X, Y, ('file', 'f', 0, 0)):
                counts[type(self.judge(script, unknown, places))] += 1
        self.assertGreater(min(counts.values()), 150)

    def test_drawn_systems(self):
        counts = {Tells: 0, Hides: 0}
        for seed in range(300):
            dice = random.Random(seed)
            rows = []
            for _ in range(dice.randint(1, 6)):
                terms = [f'{dice.randint(1, 9)} {word}' for word in 'abcdef' if dice.random() < 0.5] + ['5']
                rows.append(dice.choice(['', '- ']) + dice.choice([' + ', ' - ']).join(terms))
            script = showing(*rows)
            counts[type(self.judge(script, ('input', 'a'), list(range(len(rows)))))] += 1
        self.assertGreater(min(counts.values()), 40)

    def test_bent_evidence(self):
        script = showing('x + y', 'x - y', 'y')
        places = [0, 1, 2]
        for factors, shows in (([(1, 2), (1, 2), (0, 1)], True), ([(1, 1), (0, 1), (-1, 1)], True),
                               ([(0, 1), (1, 1), (1, 1)], True), ([(2, 4), (3, 6), (0, 9)], True),
                               ([(2, 1), (-1, 1), (-3, 1)], True), ([(1, 2), (1, 2), (1, 1)], False),
                               ([(1, 2), (1, 2)], False), ([(1, 2), (1, 2), (0, 1), (0, 1)], False), ([], False),
                               ([(1, 2), (1, 2), (0, 0)], False), ([(-1, -2), (1, 2), (0, 1)], False),
                               ([(0, 1), (0, 1), (0, 1)], False), ([(1, 1), (1, 1), (0, 1)], False),
                               ([(1, 2), (-1, 2), (0, 1)], False), ([(1, 0), (1, 0), (0, 1)], False)):
            self.assertIs(Tells(factors).shows(script, X, places), shows, factors)
        self.assertIs(Tells([(1, 2), (1, 2), (0, 1)]).shows(script, Y, places), False)
        self.assertIs(Tells([(1, 2), (-1, 2), (0, 1)]).shows(script, Y, places), True)
        self.assertIs(Tells([(1, 1)]).shows(script, X, [0]), False)
        for one, other, shows in (({X: 1, Y: -1}, {}, True), ({X: 4, Y: 1}, {X: 2, Y: 3}, True), ({X: 1}, {}, False),
                                  ({X: 1, Y: 1}, {}, False), ({}, {}, False), ({Z: 1}, {}, False),
                                  ({}, {X: 7, Y: -7, Z: 5}, True), ({X: 1, Y: -1}, {X: 1, Y: -1}, False)):
            self.assertIs(Hides(one, other).shows(script, X, [0]), shows, (one, other))
            self.assertIs(Hides(one, other).shows(script, X, [0, 1]), False)
        self.assertIs(Hides({X: 1}, {}).shows(script, X, []), True)
        self.assertIs(Hides({X: 1}, {}).shows(script, X, [2]), True)
        self.assertIs(Hides({X: 1, Y: -1}, {}).shows(script, Z, [0]), False)
        self.assertIs(Hides({X: 1, Y: -1, Z: 1}, {}).shows(script, Z, [0]), True)

    def test_never_both(self):
        script = showing('x + y', 'x - y', 'y')
        for places in ([], [0], [1], [0, 1], [2, 0], [0, 1, 2]):
            found = tells(script, X, places)
            if isinstance(found, Tells):
                for values in ({X: 1}, {X: 1, Y: -1}, {X: 1, Y: 1}, {X: 2, Z: 1}):
                    self.assertIs(Hides(values, {}).shows(script, X, places), False)

    def test_as_evidence(self):
        rows, one, other = [(1, 2)], {X: 1}, {Y: 2}
        first, second = Tells(tuple(rows)), Hides(one, other)
        rows.append((0, 1))
        one[X] = other[X] = 5
        self.assertEqual((first.factors, second.one, second.other), ([(1, 2)], {X: 1}, {Y: 2}))
        self.assertIs(type(first.factors), list)
        self.assertEqual((first, second), (Tells([(1, 2)]), Hides({X: 1}, {Y: 2})))
        for wrong in (Tells([(2, 4)]), Hides({X: 1}, {}), Hides({}, {Y: 2}), None):
            self.assertNotEqual(first, wrong)
            self.assertNotEqual(second, wrong)

    def test_wrong_arguments(self):
        script = showing('x', 'y')
        calls = (tells, Tells([]).shows, Hides({}, {}).shows, Hides(None, {}).shows)
        for call in calls:
            for wrong in (None, 5, [], 'space 1 leaves 1 cells'):
                with self.assertRaises(BadScript) as caught:
                    call(wrong, None, None)
                self.assertIsNone(caught.exception.place)
            for unknown in (None, 'x', 5, ['input', 'x'], ('input', 'X'), ('input',), ('file', 'f', True, 0), [], {},
                            ('file', 'f', 0), ('show', 0)):
                with self.assertRaises(BadValues):
                    call(script, unknown, None)
            for places in (None, 5, 'ab', {0: 1}, [2], [-1], [0, 0], [0, 1, 0], [True], [False], [0.0], ['0'], [None],
                           (0, 2), [[0]], {0}, range(2)):
                with self.assertRaises(BadPlace):
                    call(script, X, places)
        with self.assertRaises(BadPlace):
            tells(told(''), X, [0])
        for values in (None, [], {5: 1}, {X: True}, {('input', 'X'): 1}):
            for wrong in (Hides(values, {}), Hides({}, values)):
                with self.assertRaises(BadValues):
                    wrong.shows(script, X, [0])

    def test_long_script(self):
        start = time.monotonic()
        dice = random.Random(3)
        steps = [('file', 'f', 30), ('task', 'a'), ('map', 'a', 0, 30, ('common', 'f', 0), 'rw')]
        for _ in range(180):
            terms = [('cell', 'a', dice.randrange(30), dice.randrange(4), dice.choice([1, 2, -1, 3, 5])) for _ in range(8)]
            steps.append(('put', 'a', dice.randrange(30), dice.randrange(4), tuple(terms)))
        steps += [('show', 'a', at // 4, at % 4) for at in range(117)]
        script = Script(30, 4, steps)
        for unknown in (('file', 'f', 0, 0), ('file', 'f', 29, 3), X):
            found = tells(script, unknown, list(range(117)))
            self.assertIs(found.shows(script, unknown, list(range(117))), True)
        self.assertLess(time.monotonic() - start, 60)


if __name__ == '__main__':
    unittest.main()
