"""Turnings: [17]."""

import random
import time
import unittest

from tests.model import Maker
from tests.model_more import Lap, bound_of, first_unlike_of
from twinleaves.alikes import Unlike
from twinleaves.errors import BadScript, BadValues
from twinleaves.laps import turns_enough
from twinleaves.reading import read_script
from twinleaves.scripts import Script
from twinleaves.turns import Turning, UnlikeTurns, unlike_turns

X, Y = ('input', 'x'), ('input', 'y')
FRONT = 'task a; map a 0 4 zero rw; '


def steps(text):
    return read_script('space 64 leaves 4 cells\n' + text.replace('; ', '\n')).steps


def turning(ahead, body, behind, leaves=4, cells=1):
    return Turning(leaves, cells, *map(steps, (ahead, body, behind)))


def number_in(form, given):
    return None if form is None else form[0] + sum(given.get(key, 0) * factor for key, factor in form[1])


def gap_of(one, other, many, given):
    """The first show at which scripts of so many turns differ for values, by the model."""
    rows = []
    for each in (one, other):
        lap = Lap(each)
        for _ in range(many):
            lap.do(each.body)
        rows.append([number_in(form, given) for form in lap.whole()] + ['end'])
    return None if rows[0] == rows[1] else [k for k, pair in enumerate(zip(*rows)) if pair[0] != pair[1]][0]


class TurningTest(unittest.TestCase):

    def test_scripts(self):
        one = turning('task a', 'map a 0 1 zero r; show a 0.0', 'end a')
        self.assertEqual(one.script(0), Script(4, 1, steps('task a; end a')))
        body = 'map a 0 1 zero r; show a 0.0; '
        self.assertEqual(one.script(3), Script(4, 1, steps('task a; ' + 3 * body + 'end a')))
        self.assertEqual(len(one.script(149)), 300)
        for many in (150, 151, 10 ** 30):
            with self.assertRaises(BadScript) as caught:
                one.script(many)
            self.assertIsNone(caught.exception.place)
        self.assertEqual(len(turning('task a', '', '').script(10 ** 30)), 1)
        self.assertEqual(len(Turning(1, 1, [('task', 'a')] * 300, [], []).script(5)), 300)
        whole = Turning(1, 1, [('task', 'a')] * 300, [('task', 'a')] * 300, [('task', 'a')])
        with self.assertRaises(BadScript):
            whole.script(0)

    def test_like_ones(self):
        rows = [[('task', 'a')], [('end', 'a')], [('task', 'b')]]
        one = Turning(4, 1, *rows)
        rows[0].append(('end', 'a'))
        self.assertEqual(one, Turning(4, 1, (('task', 'a'),), (('end', 'a'),), (('task', 'b'),)))
        for other in (Turning(4, 1, *rows), Turning(5, 1, rows[0][:1], *rows[1:]), Turning(4, 2, rows[0][:1], *rows[1:]),
                      Turning(4, 1, [('task', 'a')], [], rows[2]), Turning(4, 1, [('task', 'a')], rows[1], []), None,
                      one.script(1)):
            self.assertNotEqual(one, other)

    def test_no_turnings(self):
        good, bad = [('task', 'a')], [('task', 'a'), ('task', 'A')]
        for told, place in (((0, 1, good, good, good), None), ((4, 5, bad, good, good), None),
                            ((True, 1, good, good, good), None), ((4, 1, None, bad, bad), None),
                            ((4, 1, 'ab', good, good), None), ((4, 1, bad, None, good), 1), ((4, 1, good, bad, None), 1),
                            ((4, 1, good, good, bad), 1), ((4, 1, good, good, bad[1:]), 0), ((4, 1, good, None, bad), None),
                            ((4, 1, good * 301, bad, good), None), ((4, 1, good, good * 301, bad), None),
                            ((4, 1, good, good, good * 301), None), ((4, 1, {}, good, good), None),
                            ((4, 1, bad[1:], bad, good), 0), ((4, 1, [good], good, good), 0)):
            with self.assertRaises(BadScript) as caught:
                Turning(*told)
            self.assertEqual(caught.exception.place, place, told)


class UnlikeTurnsTest(unittest.TestCase):

    def judge(self, one, other, many, extra=5):
        """Whether what is found is right, with a number of turns, or None; 'any' if it is to be tried alone."""
        least = first_unlike_of(one, other, bound_of(one, other) + extra)
        if many != 'any':
            self.assertEqual(least, many)
        found = unlike_turns(one, other)
        self.assertEqual(found, unlike_turns(one, other))
        if least is None:
            self.assertIsNone(found)
            self.assertIs(UnlikeTurns(0, {}, 0).shows(one, other), False)
            return None
        self.assertEqual(found.many, least)
        self.assertEqual(found.place, gap_of(one, other, found.many, found.given))
        self.assertEqual(list(found.given), sorted(found.given))
        self.assertIs(found.shows(one, other), True)
        self.assertIs(found.shows(other, one), True)
        for bent in ((found.many + 1, found.given, found.place), (found.many - 1, found.given, found.place),
                     (found.many, found.given, found.place + 1), (found.many, found.given, found.place - 1),
                     (found.many, found.given, -1), (-1, found.given, found.place)):
            self.assertIs(UnlikeTurns(*bent).shows(one, other), False, bent)
        return found

    def test_example(self):
        ahead = [('task', 'a'), ('map', 'a', 0, 2, ('zero',), 'rw')]
        one = Turning(2, 1, ahead, [('put', 'a', 0, 0, (('cell', 'a', 0, 0, 1), ('number', 1)))], [('show', 'a', 0, 0)])
        two = Turning(2, 1, ahead, [('put', 'a', 0, 0, (('cell', 'a', 0, 0, 2), ('number', 1)))], [('show', 'a', 0, 0)])
        self.assertEqual([unlike_turns(one, one), unlike_turns(one, two).many, unlike_turns(one, two).place],
                         [None, 2, 0])
        self.judge(one, two, 2)

    def test_none_and_one(self):
        self.judge(turning('', '', ''), turning('', '', ''), None)
        self.judge(turning('', '', ''), turning('task a', 'end a', 'task b'), None)
        self.judge(turning('', '', 'show a 0.0'), turning('show a 0.0', '', ''), None)
        self.judge(turning('', '', 'show a 0.0'), turning('', '', ''), 0)
        self.judge(turning('', 'show a 0.0', ''), turning('', '', ''), 1)
        self.judge(turning('', 'show a 0.0', ''), turning('', 'show b 0.0; show b 0.0', ''), 1)
        self.judge(turning('show a 0.0', 'show a 0.0', ''), turning('', '', 'show a 0.0'), 1)
        self.judge(turning('show a 0.0', 'show a 0.0', ''), turning('', 'show b 0.0', 'show c 0.0'), None)
        self.judge(turning(FRONT, 'put a 0.0 = 1', 'show a 0.0'), turning(FRONT, '', 'show a 0.0'), 1)
        self.judge(turning(FRONT, 'put a 0.0 = 1', 'show a 0.0'), turning(FRONT + 'put a 0.0 = 1', '', 'show a 0.0'), 0)

    def test_bodies(self):
        show = 'show a 0.0'
        for ours, theirs, many in (('put a 0.0 = a 0.0 + 1', 'put a 0.0 = 1 + a 0.0 + a 3.0', None),
                                   ('put a 0.0 = a 0.0 + x', 'put a 0.0 = 2 a 0.0 + x', 2),
                                   ('put a 0.0 = 2 a 0.0', 'put a 0.0 = a 0.0 + a 0.0', None),
                                   ('put a 0.0 = a 1.0', 'put a 1.0 = a 0.0', None),
                                   ('put a 0.0 = 2 a 0.0 + 1; put a 1.0 = 2 a 1.0 + 2', 'put a 0.0 = 2 a 0.0 + 1', None),
                                   ('put a 1.0 = a 1.0 + 1; put a 0.0 = a 0.0 + a 1.0',
                                    'put a 1.0 = a 1.0 + 1; put a 0.0 = a 0.0 + 1', 2),
                                   ('put a 0.0 = a 1.0; put a 1.0 = a 2.0; put a 2.0 = a 3.0; put a 3.0 = x', '', 4),
                                   ('put a 0.0 = a 1.0; put a 1.0 = a 2.0; put a 2.0 = a 3.0; put a 3.0 = 0', '', None),
                                   ('move a 0 1 to 9; move a 1 1 to 0; move a 9 1 to 1; put a 3.0 = 1', '', None),
                                   ('fork a b; put b 0.0 = 1; end b', '', None),
                                   ('fork a b; put a 0.0 = b 0.0 + 1; end b', 'put a 0.0 = a 0.0 + 1', None),
                                   ('fork a b; put a 0.0 = b 0.0 + 1', 'put a 0.0 = a 0.0 + 1', 2),
                                   ('unmap a 0 1', '', 1), ('unmap a 0 1; map a 0 1 zero rw', '', None),
                                   ('unmap a 0 1; map a 0 1 zero r', '', None),
                                   ('guard a 0 1 r; put a 0.0 = 5; guard a 0 1 rw', '', None),
                                   ('put a 0.0 = 5; guard a 0 1 r', 'put a 0.0 = a 0.0 + 5', 2),
                                   ('file f 2; map a 4 1 common f 0 rw; put a 4.0 = a 4.0 + 1; unmap a 4 1', '', None),
                                   ('file f 1; map a 9 1 common f 0 r; unmap a 0 1; move a 9 1 to 0; cut f 0', '', 1)):
            one = turning(FRONT, ours, show, 12)
            other = turning(FRONT, theirs, show, 12)
            self.judge(one, other, many)
            self.judge(other, one, many)

    def test_what_is_shown_in_bodies(self):
        one = turning(FRONT, 'show a 0.0; put a 0.0 = a 0.0 + 1', '')
        self.judge(one, turning(FRONT, 'show a 0.0; put a 0.0 = 2 a 0.0 + 1', ''), 3)
        self.judge(one, turning(FRONT, 'show a 0.0; put a 0.0 = a 0.0 + 1; put a 1.0 = 4', ''), None)
        self.judge(one, turning(FRONT, 'show a 0.0; put a 0.0 = a 0.0 + 1; unmap a 0 1', ''), 2)
        self.judge(turning(FRONT, 'show a 0.0; unmap a 0 1', ''), turning(FRONT, 'show a 0.0; unmap a 1 1', ''), 2)

    def test_shows_that_stand_in_other_turns(self):
        one = turning(FRONT, 'show a 0.0; put a 0.0 = a 0.0 + 1', 'show a 0.0')
        self.judge(one, turning(FRONT + 'show a 0.0; put a 0.0 = 1', 'show a 0.0; put a 0.0 = a 0.0 + 1', ''), None)
        self.judge(one, turning(FRONT + 'show a 0.0; put a 0.0 = 1', 'show a 0.0; put a 0.0 = 2 a 0.0', ''), 3)
        self.judge(one, turning(FRONT + 'show a 0.0; put a 0.0 = 2', 'show a 0.0; put a 0.0 = a 0.0 + 1', ''), 1)
        behind = 'show a 0.0; put a 0.0 = a 0.0 + 1; '
        self.judge(turning(FRONT, behind, behind + behind + 'show a 0.0'),
                   turning(FRONT + behind + behind, behind, 'show a 0.0'), None)

    def test_late_partings(self):
        for many in range(2, 30, 3):
            ahead = f'task a; map a 0 {many} zero rw; put a {many - 1}.0 = '
            body = '; '.join(f'put a {at}.0 = a {at + 1}.0' for at in range(many - 1))
            one, other = turning(ahead + 'x', body, 'show a 0.0', 64), turning(ahead + 'y', body, 'show a 0.0', 64)
            self.assertEqual(unlike_turns(one, other).many, many - 1)
            self.assertIs(unlike_turns(one, other).shows(one, other), True)
            self.assertIsNone(unlike_turns(one, turning(ahead + 'x + y - y', body, 'show a 0.0', 64)))

    def test_partings_by_moves(self):
        # Seven leaves are moved around; one of them cannot be put into, or has another number.
        moves = '; '.join(f'move a {1 + at} 1 to {at}' for at in range(7))
        body = f'move a 0 1 to 7; {moves}'
        front = 'task a; map a 0 7 zero rw'
        for at in range(7):
            one = turning(front, body + '; put a 0.0 = 1', 'show a 0.0', 8)
            other = turning(f'{front}; guard a {at} 1 r', body + '; put a 0.0 = 1', 'show a 0.0', 8)
            self.judge(one, other, at if at else 7)
            other = turning(f'{front}; put a {at}.0 = 3', body, 'show a 0.0', 8)
            self.judge(turning(front, body, 'show a 0.0', 8), other, at)

    def test_values(self):
        # Nothing but x tells them apart, behind what never does.
        body = 'show a 3.0; put a 0.0 = a 0.0 + a 1.0; put a 1.0 = y'
        one = turning(FRONT + 'put a 1.0 = x', body, 'show a 0.0')
        other = turning(FRONT + 'put a 1.0 = 3 x', body, 'show a 0.0')
        found = self.judge(one, other, 1)
        self.assertEqual((found.place, found.given.get(X, 0) != 0), (1, True))
        for given, shows in (({X: 1}, True), ({X: 0}, False), ({Y: 1}, False), ({X: -7, Y: 2}, True), ({}, False)):
            self.assertIs(UnlikeTurns(1, given, 1).shows(one, other), shows)
        self.assertIs(UnlikeTurns(2, {X: 1}, 2).shows(one, other), False)

    def test_differences_that_many_values_hide(self):
        # Numbers that could be those of unknowns, and multiples of great ones.
        for number in (1, 2, 4, 48271, 48272, 2 ** 61 - 1, 2 ** 61, 2 ** 64, 3 ** 200):
            front = [('task', 'a'), ('map', 'a', 0, 2, ('zero',), 'rw')]
            put = ('put', 'a', 0, 0, (('number', number), ('cell', 'a', 0, 0, 1)))
            for total in ((('input', 'x', 1), ('cell', 'a', 0, 0, 1)), (('cell', 'a', 0, 0, 1),), (('number', number),)):
                one = Turning(2, 1, front, [put], [('show', 'a', 0, 0)])
                other = Turning(2, 1, front, [('put', 'a', 0, 0, total)], [('show', 'a', 0, 0)])
                self.judge(one, other, 2 if total == (('number', number),) else 1)

    def test_unknowns_of_files_that_are_only_shown(self):
        front = 'file f 3; task a; map a 0 3 common f 0 r; '
        for ours, theirs, given in (('0.0', '1.0', True), ('0.0', '0.1', True), ('2.1', '0.1', True), ('2.1', '2.1', False)):
            one, other = turning(front, '', 'show a ' + ours, 4, 2), turning(front, 'task b', 'show a ' + theirs, 4, 2)
            found = self.judge(one, other, 0 if given else None)
            self.assertTrue(found is None or len(found.given) == 1)
            one = turning(front, f'show a {ours}', 'move a 0 1 to 3', 4, 2)
            self.judge(one, turning(front, f'show a {theirs}', '', 4, 2), 1 if given else None)
        moves = 'move a 0 1 to 9; move a 1 1 to 0; move a 2 1 to 1; move a 9 1 to 2'
        one = turning(front, moves, 'show a 0.0', 12)
        self.judge(one, turning(front + 'cut f 2', moves, 'show a 0.0', 12), 2)
        self.judge(one, turning(front + 'cut f 2; cut f 3', moves, 'show a 0.0', 12), 2)
        self.judge(one, turning(front, moves + '; task b', 'show a 0.0', 12), None)

    def test_great_numbers_for_unknowns(self):
        # Forms that would be alike if too small a number stood for an unknown.
        front = [('task', 'a'), ('map', 'a', 0, 1, ('zero',), 'rw')]
        y, x = ('input', 'a'), ('input', 'x')
        for power in range(1, 70):
            number = 2 ** power
            for ours, theirs in (((('number', number),), (('number', -number), x + (1,))),
                                 ((('number', number),), (x + (1,),)), ((y + (number,),), (y + (-number,), x + (1,))),
                                 ((y + (number,), ('number', 1)), (x + (1,), ('number', 1)))):
                one, other = [Turning(1, 1, front, [], [('put', 'a', 0, 0, total), ('show', 'a', 0, 0)])
                              for total in (ours, theirs)]
                self.judge(one, other, 0)

    def test_numbers_that_grow(self):
        # A number that is doubled while it is moved along, and an input that is only moved.
        for many in range(1, 25):
            front = [('task', 'a'), ('map', 'a', 0, many + 1, ('zero',), 'rw')]
            pair = []
            for term, factor in ((('number', 1), 2), (('input', 'x', 1), 1), (('input', 'a', 1), 2)):
                body = [('put', 'a', at, 0, (('cell', 'a', at + 1, 0, factor),)) for at in range(many)]
                body.append(('put', 'a', many, 0, (('number', 0),)))
                pair.append(Turning(64, 1, front + [('put', 'a', many, 0, (term,))], body, [('show', 'a', 0, 0)]))
            for one, other in ((pair[0], pair[1]), (pair[1], pair[2]), (pair[0], pair[2])):
                found = unlike_turns(one, other)
                self.assertEqual(found.many, many)
                self.assertIs(found.shows(one, other), True)
                self.assertEqual(found.place, gap_of(one, other, many, found.given))

    def test_drawn_turnings(self):
        counts = {}
        for seed in range(500):
            maker = Maker(seed, 1 + seed % 3, 1 + seed % 2)
            pair = [Turning(maker.leaves, maker.cells, *rows) for rows in drawn_pair(maker)]
            if bound_of(*pair) <= 40:
                found = self.judge(*pair, 'any', 12)
                many = None if found is None else found.many
                counts[many] = counts.get(many, 0) + 1
        self.assertTrue(min(counts[None], counts[0], counts[1]) > 15, counts)

    def test_drawn_registers(self):
        counts = {}
        for seed in range(250):
            pair = drawn_registers(random.Random(seed))
            if bound_of(*pair) <= 60:
                found = self.judge(*pair, 'any', 12)
                many = 'none' if found is None else min(found.many, 4)
                counts[many] = counts.get(many, 0) + 1
        self.assertTrue(len(counts) == 6 and min(counts.values()) > 10, counts)

    def test_turns_enough(self):
        for seed in range(150):
            maker = Maker(seed, 1 + seed % 3, 1 + seed % 2)
            pair = [Turning(maker.leaves, maker.cells, *rows) for rows in drawn_pair(maker)]
            self.assertGreaterEqual(turns_enough(*pair), bound_of(*pair))
            if len(Lap(pair[0]).seen) == len(Lap(pair[1]).seen):
                self.assertEqual(turns_enough(*pair), bound_of(*pair))
        moves = 'move a 0 1 to 9; move a 1 1 to 0; move a 2 1 to 1; move a 9 1 to 2'
        one = turning('file f 3; task a; map a 0 3 common f 0 r; fork a b; end b', moves, '', 12, 2)
        self.assertEqual((turns_enough(one, one), bound_of(one, one)), (39, 39))

    def test_shows_beyond_the_bound(self):
        # Where a number is told, shows does not need all turns that could be needed.
        front = [('task', 'a'), ('task', 'b'), ('map', 'a', 0, 64, ('zero',), 'rw'), ('map', 'b', 0, 64, ('zero',), 'rw')]
        body = [('put', 'a', 0, 0, (('cell', 'a', 1, 0, 1),)), ('put', 'a', 1, 0, (('input', 'x', 1),))]
        one, other = Turning(64, 4, front, body, [('show', 'a', 0, 0)]), Turning(64, 4, front, [], [('show', 'a', 0, 0)])
        self.assertGreater(bound_of(one, other), 400)
        for many, given, shows in ((2, {X: 1}, True), (1, {X: 1}, False), (3, {X: 1}, False), (400, {X: 1}, False),
                                   (2, {}, False), (0, {X: 1}, False)):
            self.assertIs(UnlikeTurns(many, given, 0).shows(one, other), shows)

    def test_scripts_of_so_many_turns(self):
        one, other = turning(FRONT, 'put a 0.0 = a 0.0 + x', 'show a 0.0'), turning(FRONT, 'put a 0.0 = x', 'show a 0.0')
        found = self.judge(one, other, 2)
        self.assertIs(Unlike(found.given, found.place).shows(one.script(2), other.script(2)), True)

    def test_as_evidence(self):
        given = {X: 1}
        one = UnlikeTurns(2, given, 0)
        given[X] = 2
        self.assertEqual((one.many, one.given, one.place), (2, {X: 1}, 0))
        self.assertEqual(one, UnlikeTurns(2, {X: 1}, 0))
        for other in (UnlikeTurns(1, {X: 1}, 0), UnlikeTurns(2, {}, 0), UnlikeTurns(2, {X: 1}, 1), Unlike({X: 1}, 0)):
            self.assertNotEqual(one, other)

    def test_wrong_arguments(self):
        one = turning('task a', '', '')
        for call in (unlike_turns, UnlikeTurns(0, {}, 0).shows, UnlikeTurns(0, None, 0).shows):
            for pair in ((None, one), (one, None), (one, 5), (one.script(0), one), (one, turning('task a', '', '', 5)),
                         (turning('task a', '', '', 4, 2), one)):
                with self.assertRaises(BadScript) as caught:
                    call(*pair)
                self.assertIsNone(caught.exception.place)
        for given in (None, [], {5: 1}, {X: True}, {('input', 'X'): 1}):
            with self.assertRaises(BadValues):
                UnlikeTurns(-1, given, 0).shows(one, one)

    def test_many_turns(self):
        start = time.monotonic()
        cells = [(at // 4, at % 4) for at in range(196)]
        ahead = [('file', 'f', 49), ('task', 'a'), ('map', 'a', 0, 49, ('common', 'f', 0), 'rw')]
        body = [('put', 'a', *cells[at], (('cell', 'a', *cells[at + 1], 1),)) for at in range(195)]
        doubled = body + [('put', 'a', 48, 3, (('cell', 'a', 48, 3, 2), ('number', 1)))]
        show = [('show', 'a', 0, 0)]
        one, other = Turning(49, 4, ahead, body + [('end', 'b')], show), Turning(49, 4, ahead, body, show)
        self.assertEqual(turns_enough(one, other), 393)
        self.assertIsNone(unlike_turns(one, other))
        found = unlike_turns(one, Turning(49, 4, ahead, doubled, show))
        self.assertEqual((found.many, found.place), (196, 0))
        self.assertIs(found.shows(one, Turning(49, 4, ahead, doubled, show)), True)
        twice = [('put', 'a', 0, 0, (('cell', 'a', 0, 0, 2),))] * 40
        front = ahead[1:2] + [('map', 'a', 0, 49, ('zero',), 'rw'), ('put', 'a', 0, 0, (('input', 'x', 1),))]
        one = Turning(49, 4, front, twice, show)
        self.assertIsNone(unlike_turns(one, Turning(49, 4, front + [('task', 'b')], twice, show)))
        self.assertLess(time.monotonic() - start, 60)


def drawn_pair(maker):
    """Lists of steps ahead, body and behind for two turnings that have much in common."""
    kinds = maker.pick([['put', 'put', 'put', 'show', 'put'], ['put', 'move', 'put', 'show', 'map', 'unmap'],
                        ['put', 'fork', 'end', 'show', 'cut', 'map', 'unmap', 'put', 'file', 'guard', 'move', 'put']])
    rows = [maker.steps(maker.number(1, 8)), [maker.step(kinds) for _ in range(maker.number(0, 5))],
            [maker.step(['put', 'show', 'show']) for _ in range(maker.number(0, 4))]]
    ahead, body, behind = rows
    other = [list(row) for row in rows]
    mode, part = maker.number(0, 4), maker.number(0, 2)
    if mode in (0, 1):
        # The same scripts, with turns that begin at another step.
        at = maker.number(0, len(body))
        rows, other = [ahead, body, body[:at] + behind], [ahead + body[:at], body[at:] + body[:at], behind]
    if mode in (1, 2) and other[part]:
        other[part] = list(other[part])
        other[part][maker.number(0, len(other[part]) - 1)] = maker.step(kinds)
    elif mode == 3:
        other[part].insert(maker.number(0, len(other[part])), maker.step(kinds))
    elif mode == 4:
        other[0] = other[0] + [('show', maker.pick('ab'), 0, 0)]
        rows = [ahead, body, [('show', maker.pick('ab'), 0, 0)] + behind]
    return rows, other


def drawn_registers(dice):
    """Two turnings whose cells are moved along, with sums, so that differences show late."""
    many, cells = dice.randint(2, 7), dice.choice([1, 2])
    leaves = (many + cells - 1) // cells

    def put(at, *terms):
        return ('put', 'a', at // cells, at % cells, terms)

    def cell(at, factor=1):
        return ('cell', 'a', at // cells, at % cells, factor)
    front = [('file', 'f', leaves), ('task', 'a')]
    front.append(('map', 'a', 0, leaves, dice.choice([('zero',), ('zero',), ('common', 'f', 0), ('apart', 'f', 0)]), 'rw'))
    body, sums = [], dice.random()
    for at in range(many - 1):
        terms = [cell(at + 1, dice.choice([1, 1, 2, -1]))] + [cell(at, dice.choice([1, -1, 2]))] * (dice.random() < sums)
        body.append(put(at, *terms, ('number', dice.choice([0, 0, 0, 1]))))
    first = [put(many - 1, dice.choice([('number', 1), ('input', 'x', 1)]))]
    last = dice.choice([first, [], [put(many - 1, ('number', 2))], [put(dice.randrange(many), ('number', 1))]])
    shows = [('show', 'a', 0, 0)]
    if dice.random() < 0.5:
        return (Turning(leaves, cells, front + first, body, shows), Turning(leaves, cells, front + last, body, shows))
    some, rest, times = shows + body[:1], body[1:] + shows, dice.randint(0, 2)
    one = Turning(leaves, cells, front + first + (some + rest) * times + some, rest + some, shows)
    return one, Turning(leaves, cells, front + last, some + rest, (some + rest) * times + some + shows)


if __name__ == '__main__':
    unittest.main()
