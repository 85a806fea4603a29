"""Fewest guards for the rights that are wanted: [14]."""

import copy
import random
import time
import unittest

from tests.model_edits import NO_BOOKS, NO_LEAVES, all_done, fewest_paintings
from twinleaves.errors import BadBook, BadNumber, TooLarge
from twinleaves.guarding import Guards, fewest_guards


def drawn(dice, many, leaves):
    """A book of so many leaves, and rights that are wanted."""
    row = dice.sample(range(leaves), many)
    book = {leaf: (dice.randrange(9), dice.choice(['r', 'rw'])) for leaf in row}
    dice.shuffle(row)
    return book, {leaf: book[leaf][1] if dice.random() < 0.2 else dice.choice(['r', 'rw']) for leaf in row}


class GuardingTest(unittest.TestCase):

    def judge(self, leaves, book, wanted):
        found = fewest_guards(leaves, book, wanted)
        self.assertIs(found.shows(leaves, book, wanted), True)
        self.assertEqual(found, fewest_guards(leaves, dict(sorted(book.items())), dict(sorted(wanted.items()))))
        self.assertTrue(all(edit[0] == 'guard' for edit in found.edits))
        self.assertEqual(all_done(found.edits, book), {leaf: (book[leaf][0], wanted[leaf]) for leaf in book})
        row = sorted(book)
        many = len(row)
        table, firsts = found.table, found.firsts
        self.assertEqual(list(table), [(low, high) for low in range(many + 1) for high in range(low, many + 1)])
        for low, high in table:
            bounds = [0] if low == high else [1 + table[(low + 1, high)]] + [
                table[(low + 1, other)] + table[(other, high)] for other in range(low + 1, high)
                if wanted[row[other]] == wanted[row[low]]]
            self.assertLessEqual(table[(low, high)], min(bounds))
        self.assertEqual((len(firsts), firsts[-1]), (many + 1, len(found.edits)))
        self.assertLessEqual(firsts[0], 0)
        for high in range(1, many + 1):
            bounds = [firsts[low] + table[(low, high)] for low in range(high)]
            if book[row[high - 1]][1] == wanted[row[high - 1]]:
                bounds.append(firsts[high - 1])
            self.assertLessEqual(firsts[high], min(bounds))
        return found

    def test_example(self):
        book = {leaf: (leaf, 'r') for leaf in range(5)}
        self.assertEqual(len(self.judge(9, book, {0: 'rw', 1: 'r', 2: 'rw', 3: 'r', 4: 'rw'}).edits), 3)

    def test_rights(self):
        # What is there, what is wanted, and how many guards it takes.
        for there, wish, many in (('', '', 0), ('r', 'r', 0), ('r', 'w', 1), ('rrrr', 'wwww', 1), ('rwrw', 'rwrw', 0), ('wrwr', 'rwrw', 3),
                                  ('rrrrr', 'wrwrw', 3), ('rrrrr', 'rwrwr', 2), ('wrwrw', 'wwwww', 1), ('wrwrw', 'rrrrr', 1),
                                  ('rrrrrr', 'wwrrww', 2), ('wwwwww', 'wwrrww', 1), ('rrwrr', 'wwrww', 2), ('rrwwrr', 'wrrwrw', 3),
                                  ('rrrrrrr', 'wrwwwrw', 3), ('rwrwrwr', 'wrwrwrw', 4), ('rrrr', 'rrrr', 0), ('rrrw', 'wwww', 1)):
            rights = {'r': 'r', 'w': 'rw'}
            book = {3 * at: (7, rights[sign]) for at, sign in enumerate(there)}
            wanted = {3 * at: rights[sign] for at, sign in enumerate(wish)}
            self.assertEqual(len(self.judge(30, book, wanted).edits), many, (there, wish))

    def test_all_guards(self):
        for seed in range(500):
            dice = random.Random(seed)
            many = dice.randint(0, 7)
            book, wanted = drawn(dice, many, dice.choice([many + 1, 20]))
            row = sorted(book)
            least = fewest_paintings(tuple(book[leaf][1] for leaf in row), tuple(wanted[leaf] for leaf in row), ('r', 'rw'),
                                     lambda cell, color: color)
            self.assertEqual(len(self.judge(20, book, wanted).edits), least, (book, wanted))

    def test_edges(self):
        start = time.monotonic()
        for seed in range(4):
            dice = random.Random(seed)
            book, wanted = drawn(dice, 60, 1000000)
            self.judge(1000000, book, wanted)
        book = {leaf: (0, 'r') for leaf in range(60)}
        wanted = {leaf: 'rw' if leaf % 2 else 'r' for leaf in book}
        self.assertEqual(len(self.judge(60, book, wanted).edits), 30)
        for call in (fewest_guards, Guards([], {}, []).shows):
            with self.assertRaises(TooLarge):
                call(61, {leaf: (0, 'r') for leaf in range(61)}, {leaf: 'r' for leaf in range(61)})
            with self.assertRaises(BadBook):
                call(61, {leaf: (0, 'r') for leaf in range(61)}, {leaf: 'r' for leaf in range(60)})
        self.judge(1, {0: (10 ** 9, 'r')}, {0: 'rw'})
        self.judge(1000000, {999999: (0, 'r')}, {999999: 'rw'})
        self.assertLess(time.monotonic() - start, 30)

    def test_bent_evidence(self):
        book = {2 * leaf: (leaf, 'r') for leaf in range(5)}
        wanted = {0: 'rw', 2: 'r', 4: 'rw', 6: 'r', 8: 'rw'}
        good = self.judge(9, book, wanted)
        for change in (lambda one: one.edits.pop(), lambda one: one.edits.append(one.edits[-1]), lambda one: one.edits.reverse(),
                       lambda one: one.edits.append(('guard', 1, 1, 'r')), lambda one: one.edits.__setitem__(0, ('map', 0, 9, 0, 'r')),
                       lambda one: one.edits.__setitem__(0, ('guard', 0, 10, 'rw')), lambda one: one.edits.append(('unmap', 1, 1)),
                       lambda one: one.edits.append(('guard', 9, 1, 'r')), lambda one: one.firsts.pop(), lambda one: one.firsts.append(3),
                       lambda one: one.firsts.__setitem__(0, 1), lambda one: one.firsts.__setitem__(5, 2),
                       lambda one: one.firsts.__setitem__(5, 4), lambda one: one.firsts.__setitem__(1, 2),
                       lambda one: one.firsts.clear(), lambda one: one.table.__setitem__((0, 0), 1), lambda one: one.table.__setitem__((0, 5), 4),
                       lambda one: one.table.__setitem__((0, 1), 2), lambda one: one.table.pop((2, 2)),
                       lambda one: one.table.__setitem__((5, 6), 0), lambda one: one.table.clear(), lambda one: one.firsts.__setitem__(0, -1)):
            bent = copy.deepcopy(good)
            change(bent)
            self.assertIs(bent.shows(9, book, wanted), False, (bent.edits, bent.firsts))
        # Guards that do it, but one more, with numbers that would have to be greater.
        bent = copy.deepcopy(good)
        bent.edits.insert(0, ('guard', 0, 9, 'r'))
        bent.firsts[-1] += 1
        self.assertIs(bent.shows(9, book, wanted), False)
        # Two guards for neighbours that one guard would do for.
        pair = {(0, 0): 0, (0, 1): 1, (0, 2): 2, (1, 1): 0, (1, 2): 1, (2, 2): 0}
        two = [('guard', 3, 1, 'rw'), ('guard', 5, 1, 'rw')]
        told = (9, {3: (0, 'r'), 5: (0, 'r')}, {3: 'rw', 5: 'rw'})
        self.assertIs(Guards(two, pair, [0, 1, 2]).shows(*told), False)
        self.assertIs(Guards([('guard', 2, 6, 'rw')], {**pair, (0, 2): 1}, [0, 1, 1]).shows(*told), True)
        self.assertIs(good.shows(10, book, wanted), True)
        self.assertIs(good.shows(9, book, {**wanted, 2: 'rw'}), False)
        self.assertIs(good.shows(9, {**book, 4: (0, 'rw')}, wanted), False)
        self.assertIs(Guards([], {(0, 0): 0}, [0]).shows(9, {}, {}), True)
        self.assertIs(Guards([], {(0, 0): -1}, [0]).shows(9, {}, {}), True)
        self.assertIs(Guards([], {(0, 0): 0}, [-1]).shows(9, {}, {}), False)

    def test_as_evidence(self):
        table = {(0, 0): 0}
        one = Guards((), table, (0,))
        self.assertEqual((one.edits, one.table, one.firsts), ([], table, [0]))
        self.assertTrue(one.table is not table and one == Guards([], {(0, 0): 0}, [0]))
        for other in (Guards([1], table, [0]), Guards([], {}, [0]), Guards([], table, []), None):
            self.assertNotEqual(one, other)

    def test_wrong_arguments(self):
        book = {0: (5, 'r'), 1: (6, 'rw')}
        for call in (fewest_guards, Guards([], {}, []).shows):
            for leaves in NO_LEAVES:
                with self.assertRaises(BadNumber):
                    call(leaves, None, None)
            for wrong in NO_BOOKS:
                with self.assertRaises(BadBook):
                    call(8, wrong, {0: 'r'})
            for wanted in (None, [], 5, 'r', {}, {0: 'r'}, {1: 'r'}, {0: 'r', 2: 'r'}, {0: 'r', 1: 'r', 2: 'r'}, {0: 'r', 1: 'w'},
                           {0: 'r', 1: None}, {0: 'r', True: 'r'}, {False: 'r', 1: 'r'}, {0: 'r', 1.0: 'r'}, {0: 'r', 1: ['r']},
                           {0: (5, 'r'), 1: (6, 'rw')}, {0: 'r', '1': 'r'}):
                with self.assertRaises(BadBook):
                    call(8, book, wanted)

    def test_arguments_stay(self):
        book, wanted = {5: (1, 'r'), 0: (4, 'rw')}, {5: 'rw', 0: 'r'}
        found = fewest_guards(8, book, wanted)
        found.edits.clear()
        found.table.clear()
        self.assertEqual((list(book), list(wanted), book[5]), ([5, 0], [5, 0], (1, 'r')))
        self.assertEqual(len(fewest_guards(8, book, wanted).edits), 2)


if __name__ == '__main__':
    unittest.main()
