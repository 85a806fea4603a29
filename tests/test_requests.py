"""Requests for frames by rules for their places: [15]."""

import copy
import time
import unittest

from twinleaves.errors import BadMemory, BadNumber, LeafError
from twinleaves.requests import Refused, Served, judge_requests

RULES = ('first', 'last', 'tight')
SIZES = ([1], [2], [4], [1, 2], [1, 4], [2, 4], [1, 2, 4])


def placed(rule, frames, size, standing):
    """The place of a request, None if there is none, word by word."""
    free = set(range(frames)) - {place + far for place, held in standing for far in range(held)}
    places = [place for place in range(frames) if place % size == 0 and set(range(place, place + size)) <= free]
    if not places:
        return None
    if rule == 'first':
        return min(places)
    if rule == 'last':
        return max(places)

    def room(place):
        found = size
        for wide in (1, 2, 4, 8):
            if wide == 2 * found:
                low = place // wide * wide
                if set(range(low, low + wide)) <= free:
                    found = wide
        return found
    return min(places, key=lambda place: (room(place), place))


def after(rule, frames, standing, step):
    """The standing behind a step, 'refused', or None if it is no step in this standing."""
    if step[0] == 'give':
        found = [pair for pair in standing if pair[0] != step[1]]
        return tuple(found) if len(found) < len(standing) else None
    place = placed(rule, frames, step[1], standing)
    return 'refused' if place is None else tuple(sorted([*standing, (place, step[1])]))


def steps_in(standing, sizes, most):
    held = sum(size for _, size in standing)
    return [('ask', size) for size in sizes if held + size <= most] + [('give', place) for place, _ in standing]


def all_standings(rule, frames, sizes, most):
    """The standings that are reached, and the least number of steps to a refused one, None without one."""
    now, seen, many, least = [()], {()}, 1, None
    while now:
        behind = []
        for standing in now:
            for step in steps_in(standing, sizes, most):
                found = after(rule, frames, standing, step)
                if found == 'refused':
                    least = many if least is None else least
                elif found not in seen:
                    seen.add(found)
                    behind.append(found)
        now, many = behind, many + 1
    return seen, least


class RequestsTest(unittest.TestCase):

    def judge(self, rule, frames, sizes, most):
        found = judge_requests(rule, frames, sizes, most)
        standings, least = all_standings(rule, frames, sizes, most)
        self.assertEqual(found, judge_requests(rule, frames, tuple(sizes), most))
        self.assertIs(found.shows(rule, frames, sizes, most), True)
        if least is None:
            self.assertIsInstance(found, Served)
            self.assertEqual(set(found.standings), standings)
            self.assertEqual(len(found.standings), len(standings))
            return found
        self.assertIsInstance(found, Refused)
        self.assertEqual(len(found.steps), least)
        standing = ()
        for step in found.steps:
            self.assertNotEqual(standing, 'refused')
            self.assertIn(step, steps_in(standing, sizes, most))
            standing = after(rule, frames, standing, step)
        self.assertEqual(standing, 'refused')
        return found

    def test_example(self):
        self.assertEqual(len(self.judge('first', 4, [1, 2], 4).steps), 5)
        self.judge('first', 4, [1, 2], 3)

    def test_all(self):
        start = time.monotonic()
        kinds = set()
        for rule in RULES:
            for frames in range(1, 9):
                for sizes in SIZES:
                    for most in range(1, 9):
                        kinds.add((rule, type(self.judge(rule, frames, sizes, most))))
        self.assertEqual(len(kinds), 6)
        self.assertLess(time.monotonic() - start, 60)

    def test_small_ones(self):
        self.assertEqual(self.judge('first', 1, [1], 1), Served([(), ((0, 1),)]))
        self.assertEqual(self.judge('last', 1, [1], 2), Refused([('ask', 1), ('ask', 1)]))
        self.assertEqual(self.judge('tight', 1, [2], 2), Refused([('ask', 2)]))
        self.assertEqual(self.judge('tight', 3, [4], 4), Refused([('ask', 4)]))
        self.assertEqual(self.judge('first', 8, [2, 4], 1), Served([()]))
        self.assertEqual(sorted(self.judge('last', 2, [1], 1).standings), [(), ((1, 1),)])
        self.assertEqual(sorted(self.judge('tight', 6, [2], 2).standings), [(), ((4, 2),)])
        self.assertEqual(sorted(self.judge('first', 4, [1], 2).standings), [(), ((0, 1),), ((0, 1), (1, 1)), ((1, 1),)])

    def test_rules_differ(self):
        lengths = {}
        for frames in range(1, 9):
            for sizes in SIZES:
                for most in range(1, 9):
                    found = [judge_requests(rule, frames, sizes, most) for rule in RULES]
                    lengths[(frames, tuple(sizes), most)] = tuple(len(one.steps) if isinstance(one, Refused) else None for one in found)
        self.assertTrue(any(one != other for one, other, _ in lengths.values()))
        self.assertTrue(any(one != other for one, _, other in lengths.values()))

    def test_bent_served(self):
        good = self.judge('first', 4, [1, 2], 3)
        for change in (lambda rows: rows.remove(()), lambda rows: rows.pop(), lambda rows: rows.pop(1), lambda rows: rows.append(((0, 4),)),
                       lambda rows: rows.append(((1, 2),)), lambda rows: rows.append(((0, 2), (1, 1))), lambda rows: rows.append(((4, 1),)),
                       lambda rows: rows.append(((-1, 1),)), lambda rows: rows.append(((0, 2), (2, 2))), lambda rows: rows.clear(),
                       lambda rows: rows.append(((2, 1), (0, 1))), lambda rows: rows.append(((0, 1), (0, 1))),
                       lambda rows: rows.append(((2, 0),)), lambda rows: rows.append(((2, -1),)), lambda rows: rows.append(((10 ** 30, 1),))):
            bent = copy.deepcopy(good)
            change(bent.standings)
            self.assertIs(bent.shows('first', 4, [1, 2], 3), False, bent.standings)
        turned = Served(good.standings[::-1])
        self.assertIs(turned.shows('first', 4, [1, 2], 3), True)
        for told in (('last', 4, [1, 2], 3), ('first', 3, [1, 2], 3), ('first', 4, [1, 2], 4), ('first', 4, [1, 2], 2), ('first', 4, [1], 3),
                     ('first', 4, [1, 2, 4], 4)):
            self.assertIs(good.shows(*told), False, told)
        self.assertIs(good.shows('first', 4, [1, 2, 4], 3), True)
        # A standing that is not reached does no harm, if all that follows is there, too.
        self.assertIs(Served([(), ((0, 1),), ((1, 1),)]).shows('first', 2, [1], 1), True)
        self.assertIs(Served([(), ((0, 1),), ((1, 1),), ((2, 1),)]).shows('first', 2, [1], 1), False)
        self.assertIs(Served([(), ((1, 1),)]).shows('first', 2, [1], 1), False)
        self.assertIs(Served([(), ((1, 1),)]).shows('last', 2, [1], 1), True)
        # Places that no rule could give, with all that follows.
        for told, standings in ((('first', 1, [1], 1), [(), ((0, 1),), ((-1, 1),)]), (('first', 1, [1], 1), [(), ((0, 1),), ((1, 1),)]),
                                (('first', 3, [2], 2), [(), ((0, 2),), ((1, 2),)]), (('first', 4, [2], 2), [(), ((0, 2),), ((1, 1),)])):
            self.assertIs(Served(standings).shows(*told), False, standings)
            self.assertIs(Served(standings[:2]).shows(*told), True)

    def test_bent_refused(self):
        good = self.judge('first', 4, [1, 2], 4)
        told = ('first', 4, [1, 2], 4)
        for change in (lambda rows: rows.pop(), lambda rows: rows.clear(), lambda rows: rows.append(('ask', 2)),
                       lambda rows: rows.append(('give', 0)), lambda rows: rows.insert(0, ('ask', 1)),
                       lambda rows: rows.__setitem__(0, ('ask', 4)), lambda rows: rows.__setitem__(0, ('give', 0)),
                       lambda rows: rows.__setitem__(-1, ('ask', 1)), lambda rows: rows.__setitem__(-1, ('ask', 4)),
                       lambda rows: rows.__setitem__(-1, ('give', 9)), lambda rows: rows.reverse()):
            bent = copy.deepcopy(good)
            change(bent.steps)
            self.assertIs(bent.shows(*told), False, bent.steps)
        more = [('ask', 1), ('give', 0)] + good.steps
        self.assertIs(Refused(more).shows(*told), False)
        for other in (('last', 4, [1, 2], 3), ('first', 4, [1, 2], 3), ('first', 4, [1], 4), ('first', 8, [1, 2], 4)):
            self.assertIs(good.shows(*other), False, other)
        self.assertIs(Refused([('ask', 1), ('ask', 1), ('ask', 1)]).shows('first', 1, [1], 3), False)
        self.assertIs(Refused([('ask', 1), ('ask', 1)]).shows('first', 1, [1], 1), False)
        self.assertIs(Refused([('ask', 1)] * 4).shows('first', 1, [1], 4), False)
        self.assertIs(Refused([('ask', 1)] * 5).shows('first', 4, [1], 5), True)
        # As many steps as are needed, but some of them are none.
        for steps in ([('ask', 2), ('give', 0), ('ask', 2), ('ask', 2), ('ask', 1)], [('give', 9), ('give', 9), ('ask', 2), ('ask', 2), ('ask', 1)],
                      [('give', 0), ('ask', 1), ('ask', 1), ('ask', 1), ('ask', 1)], [('ask', 1)] * 4 + [('ask', 2)], [('ask', 1)] * 4 + [('give', 0)]):
            self.assertIs(Refused(steps).shows('first', 4, [1], 5), False, steps)

    def test_as_evidence(self):
        self.assertEqual(Served(((),)), Served([()]))
        self.assertEqual(Refused((('ask', 1),)), Refused([('ask', 1)]))
        self.assertTrue(type(Served(((),)).standings) is list and type(Refused(()).steps) is list)
        self.assertNotEqual(Served([]), Refused([]))
        self.assertNotEqual(Refused([]), Served([]))
        self.assertNotEqual(Served([()]), Served([]))
        self.assertNotEqual(Refused([('ask', 1)]), Refused([('ask', 2)]))
        self.assertFalse(issubclass(Refused, LeafError))

    def test_wrong_arguments(self):
        for call in (judge_requests, Served([()]).shows, Refused([]).shows):
            for wrong in (None, 5, '', 'First', 'best', ['first'], ('first',), True, 'oldest'):
                for told in ((4, [1], 1), (None, None, None)):
                    with self.assertRaises(BadMemory):
                        call(wrong, *told)
            for wrong in (0, 9, -1, True, None, '4', 4.0, [4], 10 ** 30):
                for told in (([1], 1), (None, None)):
                    with self.assertRaises(BadMemory):
                        call('first', wrong, *told)
            for wrong in ([], (), None, 5, {1: 2}, {}, [0], [3], [8], [2, 1], [1, 1], [1, 2, 2], [True], [True, 2], ['1'], [1.0], [None], '1',
                          [1, 2, 4, 8], (4, 2), [1, 3], [-1, 1], [[1]]):
                for most in (1, None):
                    with self.assertRaises(BadMemory):
                        call('tight', 8, wrong, most)
            for wrong in (0, 9, -1, True, None, '4', 4.0, [4], 10 ** 30):
                with self.assertRaises(BadNumber):
                    call('last', 8, (1, 2), wrong)

    def test_answers_are_new(self):
        for told in (('first', 4, [1, 2], 3), ('first', 4, [1, 2], 4)):
            found = judge_requests(*told)
            before = copy.deepcopy(found)
            (found.standings if isinstance(found, Served) else found.steps).clear()
            self.assertEqual(judge_requests(*told), before)


if __name__ == '__main__':
    unittest.main()
