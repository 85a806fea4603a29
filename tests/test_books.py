"""Books as objects: [23]."""

import random
import time
import unittest

from tests.model_edits import NO_BOOKS, NO_EDITS, NO_LEAVES, all_done, drawn_row
from twinleaves.books import Book
from twinleaves.errors import BadBook, BadEdit, BadNumber, BadText, NoLeaf

# Values that are no leaves of any book, those that can be no key of a dict among them.
NO_KEYS = [None, True, False, 1.0, '1', (1,), [1], {}, {1: 2}, -1, 10 ** 30, Book, object()]

# Values that are no entries, nor frames.
NO_ENTRIES = [None, True, False, -1, 10 ** 9 + 1, 1.0, '5', [], [5, 'r'], (5,), (5, 'r', 0), (5, 'w'), (5, None), (-1, 'r'), (10 ** 9 + 1, 'r'),
              (True, 'r'), ('r', 5), {}, (5, ['r'])]

NO_RIGHTS = [None, True, 0, '', 'w', 'R', 'x', ['r'], ('r',), {}]


def rows_of(book):
    """The entries of a book, one by one."""
    return {leaf: book[leaf] for leaf in range(book.room) if leaf in book}


def runs_of(entries):
    """The runs, as long as can be, of entries that are told one by one."""
    runs = []
    for leaf in sorted(entries):
        frame, right = entries[leaf]
        if runs and (leaf, frame, right) == (runs[-1][0] + runs[-1][1], runs[-1][2] + runs[-1][1], runs[-1][3]):
            runs[-1] = (runs[-1][0], runs[-1][1] + 1, *runs[-1][2:])
        else:
            runs.append((leaf, 1, frame, right))
    return runs


def drawn_entries(dice, leaves):
    """Entries in which many frames stand one behind the other, some of them alone."""
    found, shift = {}, 0
    for leaf in dice.sample(range(leaves), dice.randint(0, leaves)):
        shift = dice.choice([shift, shift, 3, 8])
        found[leaf] = dice.choice([leaf + shift, (leaf + shift, 'r'), (leaf + shift, 'rw')])
    return found


def paired(entries, right):
    return {leaf: (entry, right) if isinstance(entry, int) else entry for leaf, entry in entries.items()}


class BookTest(unittest.TestCase):

    def judge(self, book, room, entries, usual='r'):
        """Hold a book against what it must have."""
        self.assertEqual((book.room, book.usual, len(book), rows_of(book)), (room, usual, len(entries), entries))
        rows = [(leaf, *entries[leaf]) for leaf in sorted(entries)]
        self.assertEqual(list(book.walk()), rows)
        runs = runs_of(entries)
        self.assertEqual(list(book.laid_runs()), runs)
        self.assertEqual(book.text(), ' '.join(f'{first}+{many}>{frame}:{right}' for first, many, frame, right in runs))
        self.assertEqual(book.text(wide=True), ''.join(
            str(first).rjust(7) + str(many).rjust(8) + str(frame).rjust(11) + ' ' + right.ljust(2) + '|\n' for first, many, frame, right in runs))
        self.assertEqual(book, Book(room, entries, right='rw'))
        self.assertEqual(Book.parsed(book.text(), leaves=room), book)
        for leaf in range(-1, room + 1):
            self.assertIs(leaf in book, leaf in entries)
            self.assertEqual(book(leaf), entries[leaf][0] if leaf in entries else None)

    def test_example(self):
        book = Book(8, {0: 4, 1: (5, 'rw')}).edit(('map', 2, 3, 6, 'r'))
        self.assertEqual([book.text(), book(3), 5 in book, list((book - {0: 4}).walk(1, 3)), len({7: (1, 'r')} | book)],
                         ['0+1>4:r 1+1>5:rw 2+3>6:r', 7, False, [(1, 5, 'rw'), (2, 6, 'r')], 6])

    def test_making(self):
        self.assertEqual(Book.MOST, 1000000)
        self.judge(Book(1), 1, {})
        self.judge(Book(8, None, right='rw'), 8, {}, 'rw')
        self.judge(Book(8, {}), 8, {})
        self.judge(Book(8, {7: 10 ** 9, 0: (0, 'rw'), 3: 5}, right='rw'), 8, {7: (10 ** 9, 'rw'), 0: (0, 'rw'), 3: (5, 'rw')}, 'rw')
        self.judge(Book(8, {7: 10 ** 9, 0: (0, 'rw'), 3: 5}), 8, {7: (10 ** 9, 'r'), 0: (0, 'rw'), 3: (5, 'r')})
        self.assertEqual((Book(Book.MOST).room, len(Book(Book.MOST, {999999: 5}))), (1000000, 1))
        entries = {3: (1, 'r')}
        book = Book(8, entries)
        entries[4] = (1, 'r')
        self.judge(book, 8, {3: (1, 'r')})
        book[5] = 2
        self.assertEqual(entries, {3: (1, 'r'), 4: (1, 'r')})

    def test_no_books(self):
        for leaves in NO_LEAVES:
            for call in (lambda: Book(leaves, 5, right=5), lambda: Book.of(leaves, 5, right=5), lambda: Book.parsed(5, leaves=leaves)):
                with self.assertRaises(BadNumber):
                    call()
        for right in NO_RIGHTS:
            for call in (lambda: Book(8, right=right), lambda: Book(8, 5, right=right), lambda: Book.of(8, right=right),
                         lambda: Book(8).use(right), lambda: setattr(Book(8), 'usual', right)):
                with self.assertRaises(BadBook):
                    call()
        for entries in NO_BOOKS:
            if entries is not None and entries != {0: 5}:
                with self.assertRaises(BadBook):
                    Book(8, entries)
        for wrong in NO_ENTRIES:
            with self.assertRaises(BadBook):
                Book(8, {0: 1, 3: wrong})
            self.assertIs(Book.is_entry(wrong), False)
        for wrong in NO_KEYS:
            if not isinstance(wrong, (list, dict)):
                with self.assertRaises(BadBook):
                    Book(8, {wrong: 1})
        with self.assertRaises(BadBook):
            Book(8, Book(8))
        for good in ((0, 'r'), (10 ** 9, 'rw')):
            self.assertIs(Book.is_entry(good), True)
        self.assertIs(Book(3).is_entry(5), False)

    def test_items(self):
        book = Book(8)
        book[3] = 5
        book[7] = (10 ** 9, 'rw')
        book[0] = 0
        self.judge(book, 8, {3: (5, 'r'), 7: (10 ** 9, 'rw'), 0: (0, 'r')})
        book[3] = (6, 'rw')
        self.assertEqual(book.use('rw'), 'r')
        book[0] = 1
        self.judge(book, 8, {3: (6, 'rw'), 7: (10 ** 9, 'rw'), 0: (1, 'rw')}, 'rw')
        count = book.counter()
        for wrong in NO_KEYS + [8]:
            with self.assertRaises(BadNumber):
                book[wrong] = None
            for call in (lambda: book[wrong], lambda: book.drop(wrong), lambda: book.drop(3, wrong, None)):
                with self.assertRaises(NoLeaf) as caught:
                    call()
                self.assertIs(caught.exception.leaf, wrong)
            self.assertIs(wrong in book, False)
            self.assertIsNone(book(wrong))
            self.assertEqual((book(wrong, 'none'), book(wrong, default=7)), ('none', 7))
        for wrong in NO_ENTRIES:
            with self.assertRaises(BadBook):
                book[3] = wrong
        self.assertEqual((book(3, 9), book(3, default=9), book(2, 9), book(2)), (6, 6, 9, None))
        self.judge(book, 8, {3: (6, 'rw'), 7: (10 ** 9, 'rw'), 0: (1, 'rw')}, 'rw')
        self.assertEqual(count(), 0)
        self.assertEqual(type(book[3]), tuple)

    def test_drop(self):
        book = Book(8, {leaf: leaf for leaf in range(5)})
        count = book.counter()
        self.assertEqual(book.drop(4, 0, 4), [(4, 'r'), (0, 'r'), (4, 'r')])
        self.assertEqual(book.drop(), [])
        for row, leaf in (((1, 0), 0), ((0, 1), 0), ((1, 1, 7, 0), 7), ((1, True), True), ((1, [2]), [2])):
            with self.assertRaises(NoLeaf) as caught:
                book.drop(*row)
            self.assertEqual(caught.exception.leaf, leaf)
        self.assertEqual(count(), 2)
        self.judge(book, 8, {1: (1, 'r'), 2: (2, 'r'), 3: (3, 'r')})
        self.assertEqual(book.drop(3, 2, 1), [(3, 'r'), (2, 'r'), (1, 'r')])
        self.judge(book, 8, {})

    def test_is_not_walked(self):
        for book in (Book(3), Book(3, {0: 1})):
            for call in (iter, list, sorted, dict, enumerate):
                with self.assertRaises(TypeError):
                    call(book)

    def test_one_or_other(self):
        one, other = Book(8, {0: 1, 1: (2, 'rw'), 2: 3}, right='rw'), Book(5, {1: 7, 4: (8, 'rw')})
        self.judge(one | other, 8, {0: (1, 'rw'), 1: (7, 'r'), 2: (3, 'rw'), 4: (8, 'rw')}, 'rw')
        self.judge(other | one, 8, {0: (1, 'rw'), 1: (2, 'rw'), 2: (3, 'rw'), 4: (8, 'rw')})
        self.judge(other | Book(3), 5, {1: (7, 'r'), 4: (8, 'rw')})
        self.judge(one | {1: 9, 7: (4, 'r')}, 8, {0: (1, 'rw'), 1: (9, 'rw'), 2: (3, 'rw'), 7: (4, 'r')}, 'rw')
        self.judge({1: 9, 7: (4, 'r'), 6: 5} | one, 8, {0: (1, 'rw'), 1: (2, 'rw'), 2: (3, 'rw'), 7: (4, 'r'), 6: (5, 'rw')}, 'rw')
        self.judge({} | one, 8, {0: (1, 'rw'), 1: (2, 'rw'), 2: (3, 'rw')}, 'rw')
        self.judge(one | {}, 8, {0: (1, 'rw'), 1: (2, 'rw'), 2: (3, 'rw')}, 'rw')
        self.judge(one, 8, {0: (1, 'rw'), 1: (2, 'rw'), 2: (3, 'rw')}, 'rw')
        self.judge(other, 5, {1: (7, 'r'), 4: (8, 'rw')})
        fresh = one | one
        fresh[5] = 5
        self.assertFalse(5 in one or (one | {}) is one)

    def test_one_with_other(self):
        one = same = Book(8, {0: 1, 1: (2, 'rw')}, right='rw')
        one |= Book(4, {1: 7, 3: 8})
        self.judge(one, 8, {0: (1, 'rw'), 1: (7, 'r'), 3: (8, 'r')}, 'rw')
        one |= {0: 4, 7: (5, 'r')}
        self.judge(one, 8, {0: (4, 'rw'), 1: (7, 'r'), 3: (8, 'r'), 7: (5, 'r')}, 'rw')
        one |= one
        one |= {}
        one |= Book(1000000, {7: 6}, right='rw')
        self.judge(one, 8, {0: (4, 'rw'), 1: (7, 'r'), 3: (8, 'r'), 7: (6, 'rw')}, 'rw')
        self.assertIs(one, same)
        count = one.counter()
        for wrong in ({8: 1}, {0: 1, 8: 1}, {0: 5, 1: None}, {True: 1}, {0: (1, 'w')}, Book(9, {8: 1}), Book(9, {0: 9, 8: 1})):
            with self.assertRaises(BadBook):
                one |= wrong
        self.judge(one, 8, {0: (4, 'rw'), 1: (7, 'r'), 3: (8, 'r'), 7: (6, 'rw')}, 'rw')
        self.assertEqual((count(), one is same), (0, True))

    def test_one_without_other(self):
        one = Book(8, {leaf: leaf for leaf in range(5)}, right='rw')
        left = {leaf: (leaf, 'rw') for leaf in (0, 2, 4)}
        self.judge(one - Book(1000000, {1: 9, 3: 9, 7: 9, 999: 5}), 8, left, 'rw')
        self.judge(one - {1: 9, 3: (3, 'rw'), 7: (1, 'r')}, 8, left, 'rw')
        self.judge(one - {}, 8, {leaf: (leaf, 'rw') for leaf in range(5)}, 'rw')
        self.judge(one - one, 8, {}, 'rw')
        self.assertEqual(len(one), 5)
        with self.assertRaises(TypeError):
            {1: (2, 'r')} - one

    def test_wrong_sides(self):
        book = Book(8, {0: 1})
        for wrong in [{8: 1}, {-1: 1}, {True: 1}, {0.0: 1}, {'0': 1}] + [{3: entry} for entry in NO_ENTRIES]:
            for call in (lambda: book | wrong, lambda: wrong | book, lambda: book - wrong):
                with self.assertRaises(BadBook):
                    call()
        for wrong in (None, 5, [], (), 'book', [(0, 1)]):
            for call in (lambda: book | wrong, lambda: wrong | book, lambda: book - wrong, lambda: wrong - book):
                with self.assertRaises(TypeError):
                    call()
            with self.assertRaises(TypeError):
                book |= wrong
        told = {3: 5}
        with self.assertRaises(TypeError):
            told |= book
        self.assertEqual(told, {3: 5})
        self.judge(book, 8, {0: (1, 'r')})

    def test_like_ones(self):
        one = Book(8, {3: 5, 1: (2, 'rw')})
        self.assertEqual(one, Book(8, {1: (2, 'rw'), 3: (5, 'r')}, right='rw'))
        for other in (Book(9, {3: 5, 1: (2, 'rw')}), Book(8, {3: 5}), Book(8, {3: 5, 1: 2}), Book(8, {3: 6, 1: (2, 'rw')}), Book(8), None,
                      {3: (5, 'r'), 1: (2, 'rw')}):
            self.assertNotEqual(one, other)
        self.assertFalse(one == {3: (5, 'r'), 1: (2, 'rw')})

    def test_walks(self):
        book = Book(8, {6: 3, 1: (2, 'rw'), 4: 4, 2: 9})
        rows = [(1, 2, 'rw'), (2, 9, 'r'), (4, 4, 'r'), (6, 3, 'r')]
        for low in range(-2, 10):
            for high in [None, *range(-2, 10), 10 ** 30]:
                told = [row for row in rows if low <= row[0] and (high is None or row[0] < high)]
                self.assertEqual(list(book.walk(low, high)), told)
                self.assertEqual(list(book.walk(high=high, low=low)), told)
            self.assertEqual(list(book.walk(low)), [row for row in rows if low <= row[0]])
        walk = book.walk()
        self.assertEqual((next(walk), next(walk)), ((1, 2, 'rw'), (2, 9, 'r')))
        book.drop(4)
        self.assertTrue(isinstance(next(walk), tuple) and isinstance(next(book.laid_runs()), tuple))

    def test_runs(self):
        for entries, runs in (({}, []), ({3: 5}, [(3, 1, 5, 'r')]), ({3: 5, 4: 6, 5: 7}, [(3, 3, 5, 'r')]),
                              ({3: 5, 4: 6, 6: 8}, [(3, 2, 5, 'r'), (6, 1, 8, 'r')]), ({3: 5, 4: (6, 'rw'), 5: 7}, [(3, 1, 5, 'r'), (4, 1, 6, 'rw'), (5, 1, 7, 'r')]),
                              ({3: 5, 4: 5}, [(3, 1, 5, 'r'), (4, 1, 5, 'r')]), ({3: 5, 4: 4}, [(3, 1, 5, 'r'), (4, 1, 4, 'r')]),
                              ({0: 0, 1: 1, 7: 2}, [(0, 2, 0, 'r'), (7, 1, 2, 'r')]), ({0: 1, 2: 2}, [(0, 1, 1, 'r'), (2, 1, 2, 'r')])):
            self.assertEqual(list(Book(8, entries).laid_runs()), runs)
            self.judge(Book(8, entries), 8, paired(entries, 'r'))
        wide = Book(1000000, {0: 10 ** 9, 999999: (0, 'rw')}).text(wide=True)
        self.assertEqual(wide, '      0       1 1000000000 r |\n 999999       1          0 rw|\n')
        self.assertEqual((Book(4).text(), Book(4).text(wide=True), Book(4, {0: 1}).text(wide=False)), ('', '', '0+1>1:r'))

    def test_rights(self):
        book = Book(8)
        self.assertEqual((book.use('rw'), book.use('rw'), book.use('r'), book.usual), ('r', 'rw', 'rw', 'r'))
        book.usual = 'rw'
        book[0] = 1
        self.judge(book, 8, {0: (1, 'rw')}, 'rw')
        count = book.counter()
        for right in NO_RIGHTS:
            with self.assertRaises(BadBook):
                book.use(right)
            with self.assertRaises(BadBook):
                book.usual = right
        with self.assertRaises(AttributeError):
            book.room = 9
        book.use('r')
        self.assertEqual((book.usual, book.room, count()), ('r', 8, 0))

    def test_edits(self):
        for seed in range(300):
            dice = random.Random(seed)
            leaves = dice.choice([1, 3, 8, 20])
            entries = paired(drawn_entries(dice, leaves), 'r')
            edits = [edit for _ in range(dice.choice([0, 1, 1, 6])) for edit in drawn_row(dice, leaves)]
            book = Book(leaves, entries)
            self.assertIs(book.edit(*edits), book)
            self.assertEqual(rows_of(book), all_done(edits, entries), edits)
            self.judge(book, leaves, all_done(edits, entries))

    def test_refused_edits(self):
        book = Book(8, {0: 1})
        count = book.counter()
        for wrong in NO_EDITS:
            for front in ([], [('unmap', 0, 8)], [('map', 0, 8, 5, 'r')] * 12):
                with self.assertRaises(BadEdit) as caught:
                    book.edit(*front, wrong, None)
                self.assertEqual(caught.exception.place, len(front))
        with self.assertRaises(BadEdit) as caught:
            book.edit([('unmap', 0, 1)])
        self.assertEqual((caught.exception.place, count()), (0, 0))
        self.judge(book, 8, {0: (1, 'r')})
        self.judge(book.edit(), 8, {0: (1, 'r')})
        self.assertEqual(count(), 1)

    def test_counters(self):
        book = Book(8)
        book[0] = 1
        first = book.counter()
        self.assertEqual((first(), first()), (0, 0))
        book[0] = 1
        book.edit(('unmap', 0, 1), ('unmap', 0, 1))
        second = book.counter()
        self.assertEqual((first(), second(), first()), (2, 0, 0))
        book |= {}
        book[3] = 4
        book.drop(3)
        book.drop()
        book.edit()
        book.use('rw')
        book.usual = 'r'
        for call in (lambda: book | {0: 1}, lambda: book - {0: 1}, lambda: list(book.walk()), book.text, lambda: book(3), lambda: 3 in book):
            call()
        self.assertEqual((second(), second(), first()), (5, 0, 5))
        other = (book | {}).counter()
        book[1] = 1
        self.assertEqual((other(), first(), second()), (0, 1, 1))

    def test_of(self):
        self.judge(Book.of(8), 8, {})
        self.judge(Book.of(8, (0, 3, 5), right='rw'), 8, {0: (5, 'rw'), 1: (6, 'rw'), 2: (7, 'rw')}, 'rw')
        self.judge(Book.of(8, (0, 8, 0), (2, 2, 2), (4, 1, 9), (7, 1, 10 ** 9)), 8,
                   {0: (0, 'r'), 1: (1, 'r'), 2: (2, 'r'), 3: (3, 'r'), 4: (9, 'r'), 5: (5, 'r'), 6: (6, 'r'), 7: (10 ** 9, 'r')})
        self.judge(Book.of(3, *[(0, 3, at) for at in range(40)]), 3, {0: (39, 'r'), 1: (40, 'r'), 2: (41, 'r')})
        for wrong in (None, 5, (0, 1), (0, 1, 5, 'r'), [0, 1, 5], (0, 0, 5), (0, 9, 5), (8, 1, 5), (-1, 1, 5), (0, 1, -1), (0, 2, 10 ** 9), (True, 1, 5),
                      (0, True, 5), (0, 1, True), (0, 1, (5, 'r')), ('0', 1, 5), (), '0+1', ('map', 0, 1)):
            for runs in ((wrong,), ((0, 1, 5), wrong)):
                with self.assertRaises(BadBook):
                    Book.of(8, *runs)

    def test_parsed(self):
        for text, runs in (('', []), ('   ', []), ('0+1>4:r', [(0, 1, 4, 'r')]), ('  3+2>0:rw   0+1>1000000000:r ', [(0, 1, 10 ** 9, 'r'), (3, 2, 0, 'rw')]),
                           ('0+8>0:r 2+2>5:rw', [(0, 2, 0, 'r'), (2, 2, 5, 'rw'), (4, 4, 4, 'r')]), ('0+2>0:r 2+2>2:r', [(0, 4, 0, 'r')]),
                           ('15+1>7:r', [(15, 1, 7, 'r')]), ('0+1>1:r 0+1>2:r 0+1>3:rw', [(0, 1, 3, 'rw')]), ('9+1>9:r 0+1>0:r', [(0, 1, 0, 'r'), (9, 1, 9, 'r')])):
            book = Book.parsed(text)
            self.assertEqual((list(book.laid_runs()), book.room, book.usual), (runs, 16, 'r'), text)
        self.assertEqual(Book.parsed('0+1>4:r', leaves=1), Book(1, {0: 4}))
        self.assertEqual(len(Book.parsed('0+1000000>0:rw', leaves=1000000)), 1000000)
        for seed in range(200):
            dice = random.Random(seed)
            leaves = dice.choice([1, 5, 20])
            edits = drawn_row(dice, leaves, 40, kinds=('map',))
            text = ' ' * dice.randint(0, 2) + ''.join(f'{first}+{many}>{frame}:{right}' + ' ' * dice.randint(1, 3) for _, first, many, frame, right in edits)
            self.judge(Book.parsed(text, leaves=leaves), leaves, all_done(edits, {}))

    def test_wrong_texts(self):
        for text, line, column in ((None, 0, 0), (5, 0, 0), (['0+1>4:r'], 0, 0), ('x', 1, 1), ('  x', 1, 3), ('0+1>4', 1, 1), ('0+1', 1, 1), ('0', 1, 1),
                                   ('0+1>4:', 2, 1), ('0+1>4:w', 2, 1), ('0+1>4:rw ', None, None), ('0+1>4:r:r', 2, 1), ('0+1>4:rr', 2, 1),
                                   ('0+1>4:R', 2, 1), ('0+1>4:r,', 2, 1), ('0+1>4:r\n', 2, 1), ('\n', 1, 1), ('0+1>4:r\t', 2, 1),
                                   ('0+1>4:>+:', 2, 1), ('0+1>4:r 0+1>4 0+1>4:', 1, 9), ('0+1>4:r 0+1>4: 0+1>4', 2, 9), ('0+1>4:r   0+0>4:r x', 2, 11),
                                   ('x 0+0>4:r', 1, 1), ('00+1>4:r', 1, 1), ('0+01>4:r', 1, 1), ('0+1>04:r', 1, 1), ('+1>4:r', 1, 1), ('0+>4:r', 1, 1),
                                   ('0+1>:r', 1, 1), ('-1+1>4:r', 1, 1), ('0+1>-4:r', 1, 1), ('0 +1>4:r', 1, 1), ('0+ 1>4:r', 1, 1), ('0+1>4 :r', 1, 1),
                                   ('0+1>4: r', 2, 1), ('0>1+4:r', 1, 1), ('0+1:4>r', 1, 1), ('0+1>4+5:r', 1, 1), ('0++1>4:r', 1, 1), ('a+1>4:r', 1, 1),
                                   ('0+1>1000000001:r', 2, 1), ('0+2>1000000000:r', 2, 1), ('0+1>9999999999:r', 2, 1), ('0+1>10000000000:r', 1, 1),
                                   ('9999999999+1>4:r', 2, 1), ('10000000000+1>4:r', 1, 1), ('0+9999999999>4:r', 2, 1), ('0+10000000000>4:r', 1, 1),
                                   ('16+1>4:r', 2, 1), ('15+2>4:r', 2, 1), ('0+17>4:r', 2, 1), ('0+0>4:r', 2, 1), ('0000000001+1>4:r', 1, 1), ('_0+1>4:r', 1, 1),
                                   ('1_0+1>4:r', 1, 1), ('\u0661+1>4:r', 1, 1), ('\u00b2+1>4:r', 1, 1), ('0+1>\uff14:r', 1, 1), ('0+1>4:r\u00a00+1>4:r', 2, 1),
                                   ('0+1>4:r 1+1>4:r 2+1>4;r', 1, 17), (b'0+1>4:r', 0, 0)):
            if line is None:
                Book.parsed(text)
                continue
            with self.assertRaises(BadText, msg=text) as caught:
                Book.parsed(text)
            self.assertEqual((caught.exception.line, caught.exception.column), (line, column), text)

    def test_one_behind_the_other(self):
        """Books that are changed again and again, held against dicts."""
        for seed in range(150):
            dice = random.Random(seed)
            room, usual = dice.choice([1, 4, 9]), dice.choice(['r', 'rw'])
            entries = drawn_entries(dice, room)
            book, model = Book(room, entries, right=usual), paired(entries, usual)
            count = book.counter()
            for _ in range(30):
                kind, changes = dice.randrange(9), 0
                leaf, more = dice.randrange(room), drawn_entries(dice, room)
                if kind == 0:
                    book[leaf] = worth = dice.choice([5, (6, 'r'), (6, 'rw')])
                    model[leaf], changes = paired({0: worth}, usual)[0], 1
                elif kind == 1 and model:
                    row = dice.choices(sorted(model), k=dice.randint(1, 3))
                    self.assertEqual(book.drop(*row), [model[each] for each in row])
                    model, changes = {each: model[each] for each in model if each not in row}, 1
                elif kind == 2:
                    edits = drawn_row(dice, room, 3)
                    book.edit(*edits)
                    model, changes = all_done(edits, model), 1
                elif kind == 3:
                    book |= more if dice.random() < 0.5 else Book(room + dice.randrange(3), more, right=usual)
                    model, changes = {**model, **paired(more, usual)}, 1
                elif kind in (4, 5, 6):
                    other, before = Book(room, more, right=usual), count
                    book = [book | other, more | book, book - more][kind - 4]
                    model = [{**model, **paired(more, usual)}, {**paired(more, usual), **model},
                             {each: model[each] for each in model if each not in more}][kind - 4]
                    self.assertEqual(before(), 0)
                    count = book.counter()
                elif kind == 7:
                    self.assertEqual(book.use('r'), usual)
                    usual = 'r'
                else:
                    with self.assertRaises(NoLeaf):
                        book.drop(*sorted(model), room)
                self.assertEqual(count(), changes)
                self.judge(book, room, model, usual)

    def test_large_books(self):
        start = time.monotonic()
        many = Book.MOST
        whole = Book.of(many, (0, many, 0))
        self.assertEqual((whole.text(), len(whole), whole(999999)), ('0+1000000>0:r', many, 999999))
        whole.edit(('guard', 0, many, 'rw'), ('move', 0, many - 1, 1), ('share', 1, many - 1, 0), ('map', 0, many // 2, 5, 'r'), ('unmap', 3, 9))
        self.assertEqual(len(whole), many - 9)
        whole.edit(*[('map', 0, many, at, 'r') for at in range(1000)])
        self.assertEqual(whole.text(), '0+1000000>999:r')
        self.assertEqual(len((whole | whole) - whole), 0)
        small = Book(many)
        small.edit(*[('guard', 0, many, 'rw')] * 1000, ('map', 5, 1, 5, 'r'), *[('move', 5, 1, 6), ('move', 6, 1, 5)] * 500)
        self.assertEqual((list(small.walk(0, 9)), len(list(small.laid_runs()))), ([(5, 5, 'r')], 1))
        striped = Book.parsed(' '.join(f'{leaf}+1>{leaf % 7}:r' for leaf in range(0, 100000, 2)), leaves=many)
        self.assertEqual(len(striped), 50000)
        self.assertEqual(Book.parsed(striped.text(), leaves=many), striped)
        self.assertEqual(len(striped.drop(*range(0, 100000, 2))), 50000)
        self.assertLess(time.monotonic() - start, 60)


if __name__ == '__main__':
    unittest.main()
