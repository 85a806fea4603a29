"""Memories and moves that free blocks: [15]."""

import copy
import itertools
import random
import time
import unittest

from twinleaves.compacting import Memory, Moves, fewest_moves
from twinleaves.errors import BadMemory, BadNumber


def free_blocks(size, blocks, taken):
    return [block for block in range(blocks) if not set(range(block * size, block * size + size)) & set(taken)]


def fewest_by_trying(size, blocks, taken, fixed, wanted):
    """The least number of moves behind which so many blocks are free, by trying all moves, None if there are none."""
    now, seen, many = [frozenset(taken)], {frozenset(taken)}, 0
    while now:
        behind = []
        for one in now:
            if len(free_blocks(size, blocks, one)) >= wanted:
                return many
            for frame, goal in itertools.product(sorted(one - set(fixed)), set(range(size * blocks)) - one):
                other = one - {frame} | {goal}
                if other not in seen:
                    seen.add(other)
                    behind.append(other)
        now, many = behind, many + 1
    return None


def drawn_memory(dice, size, blocks):
    taken = [frame for frame in range(size * blocks) if dice.random() < 0.5]
    fixed = [frame for frame in taken if dice.random() < dice.choice([0, 0.2, 0.6])]
    return size, blocks, taken, fixed


class CompactingTest(unittest.TestCase):

    def judge(self, told, wanted, many):
        memory = Memory(*told)
        found = fewest_moves(memory, wanted)
        self.assertEqual(found, fewest_moves(Memory(told[0], told[1], tuple(told[2]), tuple(told[3])), wanted))
        if many is None:
            self.assertIsNone(found, told)
            return None
        size, blocks, taken, fixed = told
        now = set(taken)
        for frame, goal in found.moves:
            self.assertTrue(frame in now and frame not in fixed and goal not in now and 0 <= goal < size * blocks)
            now = now - {frame} | {goal}
        self.assertEqual((len(found.moves), len(found.blocks)), (many, wanted))
        self.assertEqual(found.blocks, sorted(set(found.blocks) & set(free_blocks(size, blocks, now))))
        self.assertIs(found.shows(memory, wanted), True)
        return found

    def test_example(self):
        found = self.judge((2, 3, [0, 3, 4], [0]), 1, 1)
        self.assertIn(found.blocks, ([1], [2]))
        self.judge((2, 3, [0, 3, 4], [0]), 2, None)

    def test_moves(self):
        for told, wanted, many in (((2, 3, [], []), 3, 0), ((2, 3, [], []), 4, None), ((2, 3, [0], []), 2, 0), ((2, 3, [0], []), 3, None),
                                   ((2, 3, [0, 2], []), 2, 1), ((2, 3, [0, 2], [0]), 2, 1), ((2, 3, [0, 2], [0, 2]), 2, None),
                                   ((2, 3, [0, 2], [0, 2]), 1, 0), ((2, 3, [0, 1, 2, 3], []), 1, 0), ((2, 3, [0, 1, 2, 3], []), 2, None),
                                   ((2, 3, [0, 1, 2, 3, 4], []), 1, None), ((2, 3, [0, 1, 2, 3, 4], []), 0, 0), ((1, 1, [0], [0]), 0, 0),
                                   ((1, 1, [0], [0]), 1, None), ((1, 1, [], []), 1, 0), ((4, 3, [0, 4, 5, 8, 9, 10], []), 1, 1),
                                   ((4, 3, [0, 4, 5, 8, 9, 10], [0]), 1, 2), ((4, 3, [0, 4, 5, 8, 9, 10], [0, 4]), 1, 3),
                                   ((4, 3, [0, 4, 5, 8, 9, 10], [0, 4, 8]), 1, None), ((3, 2, [0, 1, 4, 5], []), 1, None),
                                   ((3, 2, [0, 4, 5], [0]), 1, 2), ((2, 3, [], []), 10 ** 30, None), ((2, 3, [5], [5]), 2, 0)):
            self.judge(told, wanted, many)

    def test_all_moves(self):
        for seed in range(250):
            dice = random.Random(seed)
            size, blocks = dice.choice([(1, 4), (2, 3), (3, 2), (2, 4), (4, 2), (1, 6), (6, 1)])
            told = drawn_memory(dice, size, blocks)
            for wanted in range(blocks + 2):
                self.judge(told, wanted, fewest_by_trying(*told, wanted))

    def test_bent_evidence(self):
        memory = Memory(3, 3, [0, 3, 4, 6], [6])
        good = self.judge(memory.told(), 1, 1)
        self.assertEqual(good.blocks, [0])
        for moves, blocks, shows in (([(0, 5)], [0], True), ([(0, 7)], [0], True), ([(0, 1)], [0], False), ([(0, 4)], [0], False),
                                     ([(0, 9)], [0], False), ([(0, -1)], [0], False), ([(0, 5)], [1], False), ([(0, 5)], [], False),
                                     ([(0, 5)], [0, 1], False), ([(0, 5)], [0, 0], False), ([(0, 5)], [3], False), ([(0, 5)], [-1], False),
                                     ([], [0], False), ([(0, 7), (7, 8)], [0], False), ([(3, 7), (4, 8)], [1], False), ([(1, 5)], [0], False),
                                     ([(6, 5)], [2], False), ([(6, 5)], [0], False), ([(0, 0)], [0], False), ([(9, 5)], [0], False),
                                     ([(0, 10 ** 30)], [0], False)):
            self.assertIs(Moves(moves, blocks).shows(memory, 1), shows, (moves, blocks))
        two = Memory(2, 4, [0, 2, 5], [])
        for moves, blocks, shows in (([(0, 3)], [0, 3], True), ([(0, 3)], [3, 0], False), ([(2, 1)], [1, 3], True), ([(5, 1)], [2, 3], True),
                                     ([(0, 4)], [0, 3], True), ([(0, 6)], [0, 3], False), ([(0, 7)], [0, 1], False)):
            self.assertIs(Moves(moves, blocks).shows(two, 2), shows, (moves, blocks))
        three = Memory(2, 4, [1, 2], [1])
        self.assertIs(Moves([], [2, 3]).shows(three, 2), True)
        self.assertIs(Moves([(2, 0)], [1, 2, 3]).shows(three, 3), True)
        self.assertIs(Moves([(1, 3)], [0, 2, 3]).shows(three, 3), False)
        self.assertIs(Moves([(2, 0), (0, 3)], [2, 3]).shows(three, 2), False)
        self.assertIs(Moves([], []).shows(three, 0), True)
        self.assertIs(Moves([(2, 0)], [0, 1, 2, 3]).shows(three, 4), False)

    def test_memories(self):
        one = Memory(2, 3, [0, 3], (3,))
        self.assertEqual(one.told(), (2, 3, (0, 3), (3,)))
        self.assertEqual(one, Memory(2, 3, (0, 3), [3]))
        for other in (Memory(3, 2, [0, 3], [3]), Memory(2, 4, [0, 3], [3]), Memory(2, 3, [0, 3], []), Memory(2, 3, [0, 3, 4], [3]), None,
                      (2, 3, (0, 3), (3,))):
            self.assertNotEqual(one, other)
        taken = [0, 3]
        other = Memory(2, 3, taken, taken)
        taken.append(5)
        self.assertEqual(other.told(), (2, 3, (0, 3), (0, 3)))
        for size, blocks in ((1, 4096), (4096, 1), (64, 64), (1, 1)):
            self.assertEqual(Memory(size, blocks, [size * blocks - 1], []).told()[:2], (size, blocks))

    def test_no_memories(self):
        for told in ((0, 1, [], []), (1, 0, [], []), (-1, -1, [], []), (1, 4097, [], []), (4097, 1, [], []), (64, 65, [], []),
                     (True, 1, [], []), (1, True, [], []), ('1', 1, [], []), (1, None, [], []), (1.0, 1, [], []), (10 ** 30, 1, [], []),
                     (2, 3, None, []), (2, 3, [], None), (2, 3, {}, []), (2, 3, {0: 1}, []), (2, 3, 'a', []), (2, 3, [6], []),
                     (2, 3, [-1], []), (2, 3, [1, 0], []), (2, 3, [1, 1], []), (2, 3, [True], []), (2, 3, [0, True], []), (2, 3, [0.0], []),
                     (2, 3, ['0'], []), (2, 3, [None], []), (2, 3, [0], [1]), (2, 3, [], [0]), (2, 3, [0, 1], [1, 0]),
                     (2, 3, [0, 1], [0, 0]), (2, 3, [0, 1], [0, True]), (2, 3, [0], [6]), (2, 3, [0], 0), (2, 3, 0, [])):
            with self.assertRaises(BadMemory):
                Memory(*told)

    def test_wrong_arguments(self):
        memory = Memory(2, 3, [0], [])
        for call in (fewest_moves, Moves([], []).shows):
            for wrong in (None, 5, memory.told(), [], Moves([], [])):
                with self.assertRaises(BadMemory):
                    call(wrong, None)
            for wrong in (-1, True, False, None, '1', 1.0, [1]):
                with self.assertRaises(BadNumber):
                    call(memory, wrong)

    def test_as_evidence(self):
        one = Moves(((0, 1),), (0,))
        self.assertEqual((one.moves, one.blocks), ([(0, 1)], [0]))
        self.assertEqual(one, Moves([(0, 1)], [0]))
        for other in (Moves([], [0]), Moves([(0, 1)], []), None):
            self.assertNotEqual(one, other)
        before = copy.deepcopy(one)
        with self.assertRaises(BadNumber):
            one.shows(Memory(2, 3, [], []), -1)
        self.assertEqual(one, before)
        memory = Memory(2, 3, [0, 3, 4], [0])
        fewest_moves(memory, 1).moves.append(5)
        self.assertEqual(memory.told(), (2, 3, (0, 3, 4), (0,)))
        self.assertEqual(len(fewest_moves(memory, 1).moves), 1)

    def test_large_memories(self):
        start = time.monotonic()
        for size in (1, 8, 64, 2048):
            for seed in range(3):
                dice = random.Random(seed)
                told = drawn_memory(dice, size, 4096 // size)
                for wanted in (0, 1, 4096 // size // 3, 4096 // size):
                    memory = Memory(*told)
                    found = fewest_moves(memory, wanted)
                    self.assertTrue(found is None or found.shows(memory, wanted))
        self.assertLess(time.monotonic() - start, 30)


if __name__ == '__main__':
    unittest.main()
