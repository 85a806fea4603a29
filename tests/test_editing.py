"""Telling rows of edits apart, their order, and lost leaves: [14]."""

import copy
import random
import time
import unittest

from tests.model_edits import NO_EDITS, NO_LEAVES, all_books, all_done, drawn_row, stands
from twinleaves.editing import Telling, commute, lost, telling
from twinleaves.errors import BadEdit, BadNumber


def same_for_all(one, other, leaves):
    return all(all_done(one, book) == all_done(other, book) for book in all_books(leaves))


def is_lost(edits, leaves, leaf):
    """Whether two books with other frames or rights at a leaf alone become the same one."""
    for book in all_books(leaves):
        if leaf in book:
            for other in ((1 - book[leaf][0], book[leaf][1]), (book[leaf][0], 'rw' if book[leaf][1] == 'r' else 'r')):
                if all_done(edits, book) == all_done(edits, {**book, leaf: other}):
                    return True
    return False


class EditingTest(unittest.TestCase):

    def judge(self, one, other, leaves):
        """A telling of two rows, held against the books themselves."""
        found = telling(one, other, leaves)
        self.assertEqual(found is None, stands(one, leaves) == stands(other, leaves), (one, other))
        self.assertEqual(found, telling(tuple(one), tuple(other), leaves))
        if found is not None:
            self.assertIs(found.shows(one, other, leaves), True)
            behind = [all_done(edits, found.book).get(found.leaf) for edits in (one, other)]
            self.assertNotEqual(behind[0], behind[1])
            self.assertTrue(all(0 <= leaf < leaves for leaf in found.book))
        return found

    def test_example(self):
        one, other = [('move', 0, 1, 1)], [('share', 0, 1, 1), ('unmap', 0, 1)]
        self.assertIsNone(self.judge(one, other, 4))
        self.assertIs(commute([('guard', 0, 2, 'r')], [('map', 1, 1, 5, 'r')], 4), True)
        self.assertEqual(lost(one, 4), 1)

    def test_pairs_of_what_stands(self):
        # At leaf 1 each kind of what can stand there.
        rows = [[], [('unmap', 1, 1)], [('map', 1, 1, 0, 'r')], [('map', 1, 1, 0, 'rw')], [('map', 1, 1, 1, 'r')],
                [('guard', 1, 1, 'r')], [('guard', 1, 1, 'rw')], [('share', 0, 1, 1)], [('share', 2, 1, 1)],
                [('share', 0, 1, 1), ('guard', 1, 1, 'r')], [('share', 0, 1, 1), ('guard', 1, 1, 'rw')]]
        for at, one in enumerate(rows):
            for under, other in enumerate(rows):
                found = self.judge(one, other, 3)
                self.assertEqual(found is None, at == under)
                self.assertEqual(same_for_all(one, other, 3), at == under)
                if found is not None:
                    self.assertEqual(found.leaf, 1)

    def test_drawn_rows(self):
        for seed in range(500):
            dice = random.Random(seed)
            leaves = dice.choice([1, 2, 3, 6, 15])
            one, other = drawn_row(dice, leaves, 5), drawn_row(dice, leaves, 5)
            if seed % 3 == 0:
                # The same, but for one edit, or in another order.
                other = list(one)
                dice.shuffle(other)
                other = other if seed % 2 else other + drawn_row(dice, leaves, 1)
            self.judge(one, other, leaves)
            self.assertIs(commute(one, other, leaves), stands(one + other, leaves) == stands(other + one, leaves))
            if leaves <= 2 or (leaves == 3 and seed % 10 == 0):
                self.assertEqual(telling(one, other, leaves) is None, same_for_all(one, other, leaves))
                firsts = [leaf for leaf in range(leaves) if is_lost(one, leaves, leaf)]
                self.assertEqual(lost(one, leaves), firsts[0] if firsts else None, one)

    def test_orders(self):
        for one, other, truth in (([], [('unmap', 0, 1)], True), ([('unmap', 0, 2)], [('unmap', 1, 2)], True),
                                  ([('map', 0, 1, 0, 'r')], [('map', 1, 1, 0, 'r')], True),
                                  ([('map', 0, 1, 0, 'r')], [('map', 0, 1, 1, 'r')], False),
                                  ([('map', 0, 1, 0, 'r')], [('guard', 0, 1, 'r')], True),
                                  ([('map', 0, 1, 0, 'rw')], [('guard', 0, 1, 'r')], False),
                                  ([('guard', 0, 1, 'r')], [('guard', 0, 1, 'rw')], False),
                                  ([('move', 0, 1, 1)], [('move', 2, 1, 3)], True), ([('move', 0, 1, 1)], [('move', 1, 1, 2)], False),
                                  ([('move', 0, 1, 2)], [('guard', 0, 4, 'r')], True),
                                  ([('move', 0, 1, 2)], [('guard', 0, 1, 'r')], False),
                                  ([('map', 0, 1, 0, 'r')] * 10, [('map', 0, 1, 0, 'r')] * 10, True)):
            self.assertIs(commute(one, other, 4), truth, (one, other))
            self.assertIs(commute(tuple(other), tuple(one), 4), truth)

    def test_lost_leaves(self):
        for edits, leaf in (([], None), ([('guard', 3, 1, 'r')], 3), ([('unmap', 7, 1)], 7), ([('map', 0, 1, 0, 'r')], 0),
                            ([('share', 0, 3, 4)], 4), ([('share', 0, 3, 5)], 5), ([('move', 0, 4, 2)], 4), ([('move', 4, 4, 0)], 0),
                            ([('share', 0, 4, 4), ('unmap', 0, 1)], 4), ([('share', 4, 4, 0), ('unmap', 4, 4)], 0),
                            ([('unmap', 7, 1), ('share', 0, 7, 1), ('unmap', 0, 1)], 7),
                            ([('share', 0, 4, 4), ('share', 4, 4, 0)], 4), ([('move', 2, 2, 2)], None),
                            ([('share', 0, 1, 7), ('guard', 0, 1, 'r')], 7), ([('guard', 0, 8, 'rw')], 0)):
            self.assertEqual(lost(edits, 8), leaf, edits)
        self.assertEqual(lost([('unmap', 999999, 1)], 1000000), 999999)
        self.assertEqual((lost([], 1000000), lost([], 1), lost([('unmap', 0, 1)], 1)), (None, None, 0))

    def test_bent_evidence(self):
        one, other = [('guard', 2, 1, 'r'), ('unmap', 5, 1)], [('share', 3, 1, 2)]
        good = telling(one, other, 8)
        self.assertIs(good.shows(one, other, 8), True)
        for book, leaf, shows in (({}, 2, False), ({2: (0, 'rw')}, 2, True), ({3: (0, 'r')}, 2, True), ({5: (0, 'r')}, 5, True),
                                  ({5: (0, 'r')}, 2, False), ({2: (0, 'r'), 3: (0, 'r')}, 2, False), ({2: (0, 'rw')}, 3, False),
                                  ({2: (0, 'rw')}, -1, False), ({2: (0, 'rw')}, 8, False), ({2: (0, 'rw'), 8: (0, 'r')}, 2, False),
                                  ({2: (0, 'rw'), -1: (0, 'r')}, 2, False), ({2: (-1, 'rw')}, 2, False),
                                  ({2: (10 ** 9, 'rw')}, 2, True), ({2: (10 ** 9 + 1, 'rw')}, 2, False)):
            self.assertIs(Telling(book, leaf).shows(one, other, 8), shows, (book, leaf))
            self.assertIs(Telling(book, leaf).shows(other, one, 8), shows)
            self.assertIs(Telling(book, leaf).shows(one, one, 8), False)
        for leaf, shows in ((7, True), (8, False), (9, False), (6, False), (-1, False), (10 ** 30, False)):
            self.assertIs(Telling({}, leaf).shows([('map', 7, 1, 0, 'r')], [], 8), shows)
        self.assertIs(Telling({2: (0, 'rw')}, 2).shows([('guard', 2, 1, 'r')], [('guard', 2, 1, 'rw')], 8), True)
        self.assertIs(Telling({2: (0, 'rw')}, 2).shows([], [('guard', 2, 1, 'rw')], 8), False)
        self.assertIs(Telling({2: (0, 'rw')}, 2).shows([], [('guard', 2, 1, 'r')], 8), True)

    def test_as_evidence(self):
        book = {3: (1, 'r')}
        one = Telling(book, 3)
        self.assertTrue(one.book == book and one.book is not book and one.leaf == 3)
        self.assertEqual(one, Telling({3: (1, 'r')}, 3))
        for other in (Telling({}, 3), Telling(book, 2), None, (book, 3)):
            self.assertNotEqual(one, other)
        before = copy.deepcopy(one)
        with self.assertRaises(BadEdit):
            one.shows([], [None], 8)
        self.assertEqual(one, before)

    def test_wrong_arguments(self):
        for call in (telling, commute, Telling({}, 0).shows, lambda one, other, leaves: lost(one, leaves)):
            for leaves in NO_LEAVES:
                with self.assertRaises(BadNumber):
                    call(None, None, leaves)
            for wrong in NO_EDITS:
                with self.assertRaises(BadEdit) as caught:
                    call([('unmap', 0, 1), wrong], None, 8)
                self.assertEqual(caught.exception.place, 1)
            for wrong in (None, {}, 'edits', [('unmap', 0, 1)] * 11):
                with self.assertRaises(BadEdit) as caught:
                    call(wrong, [None], 8)
                self.assertIsNone(caught.exception.place)
        for call in (telling, commute, Telling({}, 0).shows):
            for wrong, place in (([None], 0), ([('unmap', 7, 1), ('unmap', 8, 1)], 1), (None, None), ([('unmap', 0, 1)] * 11, None)):
                with self.assertRaises(BadEdit) as caught:
                    call([], wrong, 8)
                self.assertEqual(caught.exception.place, place)

    def test_many_leaves(self):
        start = time.monotonic()
        many = 1000000
        one = [('map', 0, 1, 5, 'r')] + [('share', 0, 2 ** k, 2 ** k) for k in range(1, 10)]
        other = [('share', 0, 2 ** k, 2 ** k) for k in range(10, 19)] + [('guard', 0, many // 2, 'rw')]
        self.assertIs(commute(one, other, many), False)
        self.assertIsNotNone(self.judge_many(one, other, many))
        self.assertIsNone(telling(one, list(one), many))
        self.assertEqual(lost(one, many), 0)
        self.assertLess(time.monotonic() - start, 30)

    def judge_many(self, one, other, many):
        found = telling(one, other, many)
        self.assertIs(found.shows(one, other, many), True)
        return found


if __name__ == '__main__':
    unittest.main()
