"""Moves of least weight to goals: [15]."""

import copy
import heapq
import random
import time
import unittest

from twinleaves.arranging import Arranged, arranged
from twinleaves.errors import BadMemory


def least_by_trying(frames, goals, weights):
    """The least weight, by all moves, None if there are none."""
    start = tuple(frame if frame in goals else None for frame in range(frames))
    queue, known = [(0, 0, start)], {}
    many = 0
    while queue:
        weight, _, row = heapq.heappop(queue)
        if row in known:
            continue
        known[row] = weight
        if all(row[goal] == frame for frame, goal in goals.items()):
            return weight
        for at, origin in enumerate(row):
            for to in range(frames):
                if origin is not None and row[to] is None:
                    other = list(row)
                    other[at], other[to] = None, origin
                    many += 1
                    heapq.heappush(queue, (weight + weights[origin], many, tuple(other)))
    return None


def rings_of(goals):
    """The rings as sets of pairs of a frame and its goal."""
    rings, seen = set(), set()
    for frame in goals:
        row, at = [], frame
        while at in goals and at not in seen:
            seen.add(at)
            row.append(at)
            at = goals[at]
        if at == frame and len(row) > 1:
            rings.add(frozenset((one, goals[one]) for one in row))
    return rings


def drawn_goals(dice, frames, taken):
    froms, tos = dice.sample(range(frames), taken), dice.sample(range(frames), taken)
    kind = dice.random()
    if kind < 0.4:
        tos = list(froms)
        dice.shuffle(tos)
    return dict(zip(froms, tos)), {frame: dice.choice([0, 1, 1, 2, 7]) for frame in froms}


class ArrangingTest(unittest.TestCase):

    def judge(self, frames, goals, weights, weight=()):
        found = arranged(frames, goals, weights)
        self.assertEqual(found, arranged(frames, dict(sorted(goals.items())), dict(weights)))
        if weight != ():
            self.assertEqual(found and found.weight, weight, (frames, goals, weights))
        if found is None:
            self.assertTrue(rings_of(goals) and len(goals) == frames)
            return None
        inside, total = {frame: frame for frame in goals}, 0
        for frame, goal in found.moves:
            self.assertTrue(frame in inside and goal not in inside and 0 <= goal < frames)
            total += weights[inside[frame]]
            inside[goal] = inside.pop(frame)
        self.assertEqual(inside, {goal: frame for frame, goal in goals.items()})
        self.assertEqual(total, found.weight)
        pairs = [frozenset(zip(ring, ring[1:] + ring[:1])) for ring in found.rings]
        self.assertEqual((len(pairs), set(pairs)), (len(rings_of(goals)), rings_of(goals)))
        self.assertIs(found.shows(frames, goals, weights), True)
        return found

    def test_example(self):
        found = self.judge(5, {0: 1, 1: 0, 2: 3}, {0: 4, 1: 2, 2: 1}, 9)
        self.assertEqual(sorted(found.rings[0]), [0, 1])
        self.judge(2, {0: 1, 1: 0}, {0: 1, 1: 1}, None)

    def test_goals(self):
        ones = {frame: 1 for frame in range(9)}
        for frames, goals, weights, weight in ((1, {}, {}, 0), (1, {0: 0}, ones, 0), (2, {0: 1}, {0: 5}, 5), (2, {0: 0, 1: 1}, ones, 0),
                                               (3, {0: 1, 1: 0}, {0: 5, 1: 3}, 11), (3, {0: 1, 1: 2}, {0: 5, 1: 3}, 8),
                                               (3, {0: 1, 1: 2, 2: 0}, ones, None), (4, {0: 1, 1: 2, 2: 0}, {0: 5, 1: 3, 2: 4}, 15),
                                               (5, {0: 1, 1: 0, 2: 3, 3: 2}, {0: 5, 1: 3, 2: 0, 3: 2}, 13), (4, {0: 1, 1: 0, 2: 3, 3: 2}, ones, None),
                                               (5, {0: 1, 1: 0, 2: 3, 3: 4}, ones, 5), (6, {0: 1, 1: 2, 2: 3, 3: 4, 4: 5}, ones, 5),
                                               (6, {5: 4, 4: 3, 3: 2, 2: 1, 1: 0}, ones, 5), (4, {0: 0, 1: 2, 2: 1}, ones, 3),
                                               (4, {0: 1, 1: 0, 3: 3}, {0: 0, 1: 0, 3: 9}, 0), (4096, {4095: 0}, {4095: 10 ** 30}, 10 ** 30)):
            self.judge(frames, goals, weights, weight)

    def test_all_moves(self):
        for seed in range(250):
            dice = random.Random(seed)
            frames = dice.choice([1, 2, 3, 4, 5])
            goals, weights = drawn_goals(dice, frames, dice.randint(0, frames))
            self.judge(frames, goals, weights, least_by_trying(frames, goals, weights))

    def test_drawn_goals(self):
        for seed in range(300):
            dice = random.Random(seed)
            frames = dice.choice([7, 20, 60])
            self.judge(frames, *drawn_goals(dice, frames, dice.choice([frames, frames - 1, frames // 2, 3])))

    def test_edges(self):
        start = time.monotonic()
        dice = random.Random(3)
        row = list(range(4095))
        dice.shuffle(row)
        ones = {frame: 1 for frame in range(4096)}
        for goals in (dict(enumerate(row)), {at: at + 1 for at in range(4095)}, {at + 1: at for at in range(4095)}, {at: at ^ 1 for at in range(4094)},
                      {at: (at + 1) % 4095 for at in range(4095)}, {at: at for at in range(4096)}):
            self.judge(4096, goals, ones)
        self.assertIsNone(arranged(4096, {at: at ^ 1 for at in range(4096)}, ones))
        self.assertLess(time.monotonic() - start, 30)

    def test_bent_evidence(self):
        told = (6, {0: 1, 1: 0, 2: 3, 4: 4}, {0: 4, 1: 2, 2: 1, 4: 0})
        good = self.judge(*told, 9)
        for change in (lambda one: one.moves.pop(), lambda one: one.moves.append((5, 3)), lambda one: one.moves.append((4, 5)),
                       lambda one: one.moves.clear(), lambda one: one.moves.reverse(), lambda one: setattr(one, 'weight', 8),
                       lambda one: setattr(one, 'weight', 10), lambda one: one.rings.pop(), lambda one: one.rings.append([4]),
                       lambda one: one.rings.append([0, 1]), lambda one: one.rings.append([]), lambda one: one.rings[0].pop(),
                       lambda one: one.rings[0].append(2), lambda one: one.rings.append([2, 3]), lambda one: one.rings.__setitem__(0, [0, 2]),
                       lambda one: one.moves.append((4, 6)), lambda one: one.moves.append((4, -1)), lambda one: one.moves.append((4, 4)),
                       lambda one: one.moves.append((2, 2))):
            bent = copy.deepcopy(good)
            change(bent)
            self.assertIs(bent.shows(*told), False, (bent.moves, bent.rings))
        for moves, weight, shows in (([(1, 5), (0, 1), (5, 0), (2, 3)], 9, True), ([(0, 5), (1, 0), (5, 1), (2, 3)], 11, False),
                                     ([(2, 3), (1, 2), (0, 1), (2, 0)], 9, True), ([(2, 5), (5, 3), (1, 5), (0, 1), (5, 0)], 10, False),
                                     ([(1, 5), (0, 1), (5, 0), (2, 3), (4, 5), (5, 4)], 9, True)):
            for ring in ([0, 1], [1, 0]):
                self.assertIs(Arranged(moves, weight, [ring]).shows(*told), shows, moves)
        three = (5, {0: 1, 1: 2, 2: 0}, {0: 1, 1: 1, 2: 1})
        moves = arranged(*three).moves
        for ring, shows in (([0, 1, 2], True), ([1, 2, 0], True), ([2, 0, 1], True), ([2, 1, 0], False), ([0, 1], False), ([0, 2, 1], False)):
            self.assertIs(Arranged(moves, 4, [ring]).shows(*three), shows, ring)
        self.assertIs(good.shows(6, {0: 1, 1: 0, 2: 3, 4: 5}, told[2]), False)
        self.assertIs(good.shows(6, {0: 1, 1: 0, 2: 3}, told[2]), True)
        self.assertIs(good.shows(6, told[1], {0: 4, 1: 2, 2: 2, 4: 0}), False)
        self.assertIs(good.shows(6, told[1], {0: 4, 1: 2, 2: 1, 4: 0, 5: 'more'}), True)
        # Frames that the memory does not have.
        for frame in (2, -1, 10 ** 30):
            for frames, shows in ((2, False), (3, frame == 2)):
                self.assertIs(Arranged([(0, frame), (1, 0), (frame, 1)], 3, [[0, 1]]).shows(frames, {0: 1, 1: 0}, {0: 1, 1: 1}), shows)
        self.assertIs(Arranged([], 3, [[0, 1]]).shows(2, {0: 1, 1: 0}, {0: 1, 1: 1}), False)
        self.assertIs(Arranged([], 0, []).shows(2, {0: 0, 1: 1}, {0: 1, 1: 1}), True)

    def test_as_evidence(self):
        ring = [0, 1]
        one = Arranged(((0, 2),), 1, (ring,))
        self.assertEqual((one.moves, one.weight, one.rings), ([(0, 2)], 1, [[0, 1]]))
        self.assertTrue(one.rings[0] is not ring and one == Arranged([(0, 2)], 1, [(0, 1)]))
        for other in (Arranged([], 1, [ring]), Arranged([(0, 2)], 2, [ring]), Arranged([(0, 2)], 1, []), None):
            self.assertNotEqual(one, other)

    def test_wrong_arguments(self):
        for call in (arranged, Arranged([], 0, []).shows):
            for frames in (0, -1, 4097, True, None, '5', 5.0, [5], 10 ** 30):
                with self.assertRaises(BadMemory):
                    call(frames, {}, {})
            for goals in (None, [], (), 5, {5: 0}, {0: 5}, {-1: 0}, {0: -1}, {0: True}, {True: 0}, {0: None}, {None: 0}, {0: '1'}, {'0': 1}, {0: 1.0},
                          {0.0: 1}, {0: [1]}, {0: 1, 1: 1}, {0: 0, 1: 0}):
                with self.assertRaises(BadMemory):
                    call(5, goals, {frame: 1 for frame in range(-1, 8)})
            for weights in (None, [], (), 5, {}, {1: 1}, {0: -1}, {0: True}, {0: None}, {0: '1'}, {0: 1.0}, {False: 1}, {0.0: 1}, {'0': 1}, {0: [1]}):
                with self.assertRaises(BadMemory):
                    call(5, {0: 1}, weights)
        self.judge(5, {0: 1}, {0: 0, 1: -1, None: 1, 'a': None, 99: True}, 0)

    def test_arguments_stay(self):
        goals, weights = {2: 3, 1: 0, 0: 1}, {2: 1, 1: 1, 0: 1}
        found = arranged(5, goals, weights)
        found.moves.clear()
        found.rings[0].clear()
        self.assertEqual((list(goals.items()), list(weights)), ([(2, 3), (1, 0), (0, 1)], [2, 1, 0]))
        self.assertEqual(len(arranged(5, goals, weights).moves), 4)


if __name__ == '__main__':
    unittest.main()
