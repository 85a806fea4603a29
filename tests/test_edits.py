"""Rows of edits, their normal form, and the books behind them: [14]."""

import random
import time
import unittest

from tests.model_edits import NO_BOOKS, NO_EDITS, NO_LEAVES, all_books, all_done, drawn_row, form_of
from twinleaves.edits import edited, normal_form
from twinleaves.errors import BadBook, BadEdit, BadNumber

SAME = ('old', 0, None)


class EditsTest(unittest.TestCase):

    def test_examples(self):
        edits = [('map', 0, 4, 20, 'r'), ('move', 1, 2, 4), ('guard', 0, 2, 'rw')]
        self.assertEqual(normal_form(edits, 8), [(0, ('to', 20, 'rw')), (1, ('none',)), (3, ('to', 20, 'r')), (4, ('to', 17, 'r')),
                                                 (6, SAME)])
        self.assertEqual(edited([('share', 1, 2, 3), ('unmap', 1, 1)], 8, {1: (7, 'r'), 4: (9, 'rw')}), {3: (7, 'r')})

    def test_kinds(self):
        for edits, form in (([], [(0, SAME)]),
                            ([('map', 2, 3, 7, 'rw')], [(0, SAME), (2, ('to', 5, 'rw')), (5, SAME)]),
                            ([('map', 0, 8, 0, 'r')], [(0, ('to', 0, 'r'))]),
                            ([('map', 7, 1, 0, 'r')], [(0, SAME), (7, ('to', -7, 'r'))]),
                            ([('map', 0, 4, 0, 'r'), ('map', 4, 4, 4, 'r')], [(0, ('to', 0, 'r'))]),
                            ([('map', 0, 4, 0, 'r'), ('map', 4, 4, 4, 'rw')], [(0, ('to', 0, 'r')), (4, ('to', 0, 'rw'))]),
                            ([('map', 0, 4, 0, 'r'), ('map', 4, 4, 5, 'r')], [(0, ('to', 0, 'r')), (4, ('to', 1, 'r'))]),
                            ([('map', 0, 8, 4, 'r'), ('map', 2, 2, 6, 'r')], [(0, ('to', 4, 'r'))]),
                            ([('unmap', 0, 3), ('unmap', 3, 2)], [(0, ('none',)), (5, SAME)]),
                            ([('guard', 1, 2, 'r')], [(0, SAME), (1, ('old', 0, 'r')), (3, SAME)]),
                            ([('guard', 1, 2, 'r'), ('guard', 0, 8, 'rw')], [(0, ('old', 0, 'rw'))]),
                            ([('unmap', 2, 2), ('guard', 0, 8, 'r')], [(0, ('old', 0, 'r')), (2, ('none',)), (4, ('old', 0, 'r'))]),
                            ([('move', 0, 2, 4)], [(0, ('none',)), (2, SAME), (4, ('old', -4, None)), (6, SAME)]),
                            ([('move', 4, 2, 0)], [(0, ('old', 4, None)), (2, SAME), (4, ('none',)), (6, SAME)]),
                            ([('move', 0, 3, 1)], [(0, ('none',)), (1, ('old', -1, None)), (4, SAME)]),
                            ([('move', 1, 3, 0)], [(0, ('old', 1, None)), (3, ('none',)), (4, SAME)]),
                            ([('share', 0, 3, 1)], [(0, SAME), (1, ('old', -1, None)), (4, SAME)]),
                            ([('share', 1, 3, 0)], [(0, ('old', 1, None)), (3, SAME)]),
                            ([('move', 2, 3, 2)], [(0, SAME)]), ([('share', 2, 3, 2)], [(0, SAME)]),
                            ([('move', 0, 2, 4), ('move', 4, 2, 0)], [(0, SAME), (4, ('none',)), (6, SAME)]),
                            ([('move', 0, 1, 4), ('guard', 3, 3, 'rw')],
                             [(0, ('none',)), (1, SAME), (3, ('old', 0, 'rw')), (4, ('old', -4, 'rw')), (5, ('old', 0, 'rw')), (6, SAME)]),
                            ([('guard', 0, 2, 'r'), ('move', 0, 3, 5)],
                             [(0, ('none',)), (3, SAME), (5, ('old', -5, 'r')), (7, ('old', -5, None))])):
            self.assertEqual(normal_form(edits, 8), form, edits)
            self.assertEqual(form_of(edits, 8), form, edits)
            self.assertEqual(normal_form(tuple(edits), 8), form)

    def test_drawn_rows(self):
        for seed in range(600):
            dice = random.Random(seed)
            leaves = dice.choice([1, 2, 3, 5, 8, 20])
            edits = drawn_row(dice, leaves, frames=dice.choice([2, 30]))
            self.assertEqual(normal_form(edits, leaves), form_of(edits, leaves), edits)
            book = {leaf: (dice.randrange(50), dice.choice(['r', 'rw'])) for leaf in range(leaves) if dice.random() < 0.6}
            found = edited(edits, leaves, book)
            self.assertEqual(found, all_done(edits, book), edits)
            self.assertEqual(list(found), sorted(found))

    def test_all_books(self):
        for seed in range(30):
            dice = random.Random(seed)
            edits = drawn_row(dice, 3)
            for book in all_books(3):
                self.assertEqual(edited(edits, 3, book), all_done(edits, book))

    def test_edges(self):
        for leaves in (1, 1000000):
            self.assertEqual(normal_form([('unmap', 0, leaves)], leaves), [(0, ('none',))])
            self.assertEqual(normal_form([('map', leaves - 1, 1, 10 ** 9, 'r')], leaves)[-1], (leaves - 1, ('to', 10 ** 9 - leaves + 1, 'r')))
            self.assertEqual(edited([('map', leaves - 1, 1, 10 ** 9, 'r')], leaves, {0: (10 ** 9, 'rw')})[leaves - 1], (10 ** 9, 'r'))
            for wrong in (('unmap', 0, leaves + 1), ('unmap', leaves, 1), ('share', 0, leaves, 1), ('map', leaves - 1, 1, 10 ** 9 + 1, 'r')):
                with self.assertRaises(BadEdit) as caught:
                    normal_form([wrong], leaves)
                self.assertEqual(caught.exception.place, 0)
        self.assertEqual(edited([('map', 0, 8, 10 ** 9 - 7, 'r')], 8, {})[7], (10 ** 9, 'r'))
        with self.assertRaises(BadEdit):
            edited([('map', 0, 8, 10 ** 9 - 6, 'r')], 8, {})
        self.assertEqual(normal_form([('unmap', 0, 1)] * 10, 8), [(0, ('none',)), (1, SAME)])
        self.assertEqual(edited([], 8, {}), {})

    def test_wrong_arguments(self):
        for call in (normal_form, lambda edits, leaves: edited(edits, leaves, None)):
            for leaves in NO_LEAVES:
                with self.assertRaises(BadNumber):
                    call(None, leaves)
            for edits in (None, 5, 'edits', {}, ('unmap', 0, 1), [('unmap', 0, 1)] * 11, [None] * 11):
                with self.assertRaises(BadEdit) as caught:
                    call(edits, 8)
                self.assertIs(caught.exception.place, 0 if edits == ('unmap', 0, 1) else None)
            for wrong in NO_EDITS:
                for front in ([], [('unmap', 0, 1)], [('guard', 0, 1, 'r')] * 9):
                    with self.assertRaises(BadEdit) as caught:
                        call(front + [wrong] + [None] * (9 - len(front)), 8)
                    self.assertEqual(caught.exception.place, len(front))
        for book in NO_BOOKS:
            with self.assertRaises(BadBook):
                edited([], 8, book)

    def test_arguments_stay(self):
        edits, book = [('move', 0, 3, 2)], {5: (5, 'r'), 0: (1, 'rw')}
        found = edited(edits, 8, book)
        normal_form(edits, 8).append(5)
        found[7] = 5
        self.assertEqual((edits, list(book.items())), ([('move', 0, 3, 2)], [(5, (5, 'r')), (0, (1, 'rw'))]))
        self.assertEqual((edited(edits, 8, book), edited([], 8, book)), ({2: (1, 'rw'), 5: (5, 'r')}, book))
        self.assertIsNot(edited([], 8, book), book)

    def test_many_leaves(self):
        start = time.monotonic()
        many = 1000000
        twice = [('map', 0, 1, 5, 'r')] + [('share', 0, 2 ** k, 2 ** k) for k in range(1, 10)]
        self.assertEqual(len(normal_form(twice, many)), 1025)
        book = {leaf: (leaf, 'r') for leaf in range(many)}
        self.assertEqual(len(edited(twice, many, book)), many)
        whole = [('guard', 0, many, 'rw'), ('move', 0, many - 1, 1), ('share', 1, many - 1, 0), ('map', 0, many // 2, 5, 'r'),
                 ('move', 0, many // 2, many // 2), ('unmap', 3, 10), ('guard', 0, many, 'rw'), ('share', 5, many - 5, 0)]
        found = edited(whole, many, book)
        self.assertEqual((found[many // 2], found[many - 10], len(found)), ((10, 'rw'), (many // 2, 'rw'), 500005))
        self.assertLess(time.monotonic() - start, 30)


if __name__ == '__main__':
    unittest.main()
