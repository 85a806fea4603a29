"""Least prices of touches: [16]."""

import copy
import itertools
import random
import time
import unittest

from twinleaves.errors import BadNumber, BadTouches
from twinleaves.evicting import Least, least_price


def least_by_trying(touches, weights, frames):
    """The least price, by all ways to let leaves go."""
    states = {frozenset(): 0}
    for leaf in touches:
        behind = {}
        for inside, price in states.items():
            for many in range(len(inside) + 1):
                for kept in itertools.combinations(sorted(inside), many):
                    now = frozenset(kept) | {leaf}
                    if len(now) <= frames:
                        told = price + (0 if leaf in kept else weights[leaf])
                        behind[now] = min(told, behind.get(now, told))
        states = behind
    return min(states.values())


def gaps_of(touches):
    return [(one, other) for one in range(len(touches)) for other in range(one + 1, len(touches))
            if touches[one] == touches[other] and touches[one] not in touches[one + 1:other]]


class EvictingTest(unittest.TestCase):

    def judge(self, touches, weights, frames, price=None):
        found = least_price(touches, weights, frames)
        self.assertIs(found.shows(touches, weights, frames), True)
        self.assertEqual(found, least_price(tuple(touches), dict(list(weights.items())[::-1]), frames))
        if price is not None:
            self.assertEqual(found.price, price, (touches, weights, frames))
        gaps = gaps_of(touches)
        self.assertTrue(len(set(found.kept)) == len(found.kept) and set(found.kept) <= set(gaps))
        for place in range(len(touches)):
            self.assertLess(len([gap for gap in found.kept if gap[0] < place < gap[1]]), frames)
        whole = sum(weights[leaf] for leaf in touches)
        self.assertEqual(found.price, whole - sum(weights[touches[last]] for _, last in found.kept))
        self.assertEqual(len(found.times), len(touches))
        self.assertTrue(all(type(number) is int and number >= 0 for number in found.times))
        saved = sum(max(0, weights[touches[one]] - sum(found.times[one + 1:other])) for one, other in gaps)
        self.assertEqual(found.price, whole - sum(found.times) * (frames - 1) - saved)
        return found

    def test_example(self):
        found = self.judge([1, 2, 3, 1, 2, 3], {1: 1, 2: 1, 3: 5}, 2, 8)
        self.assertEqual(sorted(found.kept), [(0, 3), (2, 5)])

    def test_touches(self):
        ones = {leaf: 1 for leaf in range(9)}
        for touches, weights, frames, price in (([], {}, 1, 0), ([5], {5: 1000}, 1, 1000), ([5, 5], {5: 3}, 1, 3), ([5, 6, 5], {5: 3, 6: 1}, 1, 7),
                                                ([5, 6, 5], {5: 3, 6: 1}, 2, 4), ([5, 5, 5], {5: 3}, 9, 3), ([1, 2, 1, 2], ones, 1, 4),
                                                ([1, 2, 1, 2], ones, 2, 2), ([1, 2, 3, 1, 2, 3], ones, 2, 4), ([1, 2, 3, 1, 2, 3], ones, 3, 3),
                                                ([1, 2, 3, 1, 2, 3], ones, 10 ** 30, 3), ([0, 1, 2, 0], {0: 10, 1: 1, 2: 1}, 2, 12),
                                                ([0, 1, 1, 2, 0], {0: 10, 1: 9, 2: 1}, 2, 20), ([0, 1, 2, 1, 0], {0: 10, 1: 9, 2: 1}, 2, 29),
                                                ([0, 1, 2, 1, 0], {0: 9, 1: 10, 2: 1}, 2, 29), ([0, 1, 2, 1, 0], {0: 9, 1: 10, 2: 1}, 3, 20),
                                                ([10 ** 30, 0, 10 ** 30], {10 ** 30: 2, 0: 1}, 2, 3)):
            self.judge(touches, weights, frames, price)

    def test_all_ways(self):
        for seed in range(500):
            dice = random.Random(seed)
            leaves = dice.randint(1, 5)
            touches = [dice.randrange(leaves) for _ in range(dice.randint(0, 11))]
            weights = {leaf: dice.choice([1, 1, 2, 5, 1000]) for leaf in range(leaves)}
            for frames in (1, 2, 3, 4):
                self.judge(touches, weights, frames, least_by_trying(touches, weights, frames))

    def test_many_touches(self):
        start = time.monotonic()
        for seed in range(6):
            dice = random.Random(seed)
            leaves = [2, 10, 40, 90, 100, 200][seed]
            touches = [dice.randrange(leaves) for _ in range(200)] if leaves != 100 else list(range(100)) * 2
            weights = {leaf: dice.choice([1, 1000, dice.randint(1, 1000)]) for leaf in range(leaves)}
            for frames in (1, 2, 5, 30, 99, 100, 101, 200, 10 ** 30):
                self.judge(touches, weights, frames)
        self.judge([7] * 200, {7: 1}, 1, 1)
        self.judge(list(range(200)), {leaf: 1000 for leaf in range(200)}, 200, 200000)
        self.assertLess(time.monotonic() - start, 60)

    def test_bent_evidence(self):
        told = ([1, 2, 3, 1, 2, 3], {1: 1, 2: 1, 3: 5}, 2)
        good = self.judge(*told)
        for change in (lambda one: setattr(one, 'price', 7), lambda one: setattr(one, 'price', 9), lambda one: one.kept.pop(),
                       lambda one: one.kept.append((1, 4)), lambda one: one.kept.append((0, 3)), lambda one: one.kept.append((0, 2)),
                       lambda one: one.kept.append((3, 6)), lambda one: one.kept.append((-1, 2)), lambda one: one.kept.clear(),
                       lambda one: one.times.pop(), lambda one: one.times.append(0), lambda one: one.times.clear(),
                       lambda one: one.times.__setitem__(0, 1), lambda one: one.times.__setitem__(0, -1), lambda one: one.times.__setitem__(5, 1),
                       lambda one: setattr(one, 'times', [0] * 6), lambda one: setattr(one, 'times', [1000] * 6)):
            bent = copy.deepcopy(good)
            change(bent)
            self.assertIs(bent.shows(*told), False, (bent.price, bent.kept, bent.times))
        self.assertIs(Least(8, [(2, 5), (0, 3)], good.times).shows(*told), True)
        self.assertIs(Least(8, [(2, 5), (1, 4)], good.times).shows(*told), False)
        for other in (([1, 2, 3, 1, 2, 3], {1: 1, 2: 1, 3: 6}, 2), (told[0], told[1], 3), (told[0], told[1], 1), (told[0][:5], told[1], 2),
                      ([1, 2, 3, 2, 1, 3], told[1], 2)):
            self.assertIs(good.shows(*other), False)
        # Times below 0 that would rule more out, and a price that is not the least.
        self.assertIs(Least(4, [], [0, -1, 1, 0]).shows([1, 2, 1, 2], {1: 1, 2: 1}, 2), False)
        self.assertIs(Least(4, [], [0, 0, 0, 0]).shows([1, 2, 1, 2], {1: 1, 2: 1}, 2), False)
        self.assertIs(Least(4, [], [0, 0, 0, 0]).shows([1, 2, 1, 2], {1: 1, 2: 1}, 1), False)
        self.assertIs(Least(4, [], [0, 1, 1, 0]).shows([1, 2, 1, 2], {1: 1, 2: 1}, 1), True)
        self.assertIs(Least(2, [(0, 2), (1, 3)], [0, 0, 0, 0]).shows([1, 2, 1, 2], {1: 1, 2: 1}, 2), True)
        self.assertIs(Least(1, [(0, 1)], [0, 0]).shows([1, 1], {1: 1}, 1), True)
        self.assertIs(Least(3, [(0, 2)], [-1, 0, 0, 0]).shows([1, 2, 1, 2], {1: 1, 2: 1}, 2), False)
        self.assertIs(Least(0, [(0, 1), (0, 1)], [1, 0]).shows([1, 1], {1: 1}, 2), False)
        # The times of the touches themselves do not count, those of the places between do.
        for times, shows in (([1, 0, 1, 0], False), ([0, 1, 0, 1], False), ([0, 1, 1, 0], True), ([9, 1, 1, 9], True), ([1, 1, 0, 0], False)):
            self.assertIs(Least(4, [], times).shows([1, 2, 1, 2], {1: 1, 2: 1}, 1), shows, times)

    def test_as_evidence(self):
        one = Least(1, ((0, 1),), (0, 0))
        self.assertEqual((one.price, one.kept, one.times), (1, [(0, 1)], [0, 0]))
        self.assertEqual(one, Least(1, [(0, 1)], [0, 0]))
        for other in (Least(2, [(0, 1)], [0, 0]), Least(1, [], [0, 0]), Least(1, [(0, 1)], []), None):
            self.assertNotEqual(one, other)

    def test_wrong_arguments(self):
        for call in (least_price, Least(0, [], []).shows):
            for touches in (None, 5, 'a', {}, {1: 1}, [-1], [True], [0, False], ['0'], [None], [0.0], [0] * 201, tuple([0] * 201), [[0]]):
                with self.assertRaises(BadTouches):
                    call(touches, {0: 1, -1: 1, 1: 1, '0': 1, None: 1}, None)
            for weights in (None, [], 5, {}, {1: 1}, {0: 0}, {0: 1001}, {0: -1}, {0: True}, {0: None}, {0: '1'}, {0: 1.0}, {False: 1}, {0.0: 1},
                            {'0': 1}, {0: [1]}):
                with self.assertRaises(BadTouches):
                    call([0, 0], weights, None)
            for frames in (0, -1, True, None, '1', 1.0, [1]):
                with self.assertRaises(BadNumber):
                    call([0, 0], {0: 1}, frames)
                with self.assertRaises(BadNumber):
                    call([], {}, frames)
        self.judge([0] * 200, {0: 1}, 1)
        self.judge([0, 0], {0: 1, 5: 'whatever', None: 0, True: 2, 7: 0, 8: 1001}, 1, 1)
        self.judge([1, 0, 1], {0: 1000, 1: 1, 2: None}, 1, 1002)

    def test_arguments_stay(self):
        touches, weights = [2, 1, 2], {2: 1, 1: 5}
        found = least_price(touches, weights, 2)
        found.kept.append(5)
        found.times.append(5)
        self.assertEqual((touches, list(weights), least_price(touches, weights, 2).kept), ([2, 1, 2], [2, 1], [(0, 2)]))


if __name__ == '__main__':
    unittest.main()
