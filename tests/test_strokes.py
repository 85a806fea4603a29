"""Fewest maps and unmaps for a change: [14]."""

import copy
import random
import time
import unittest

from tests.model_edits import NO_EDITS, NO_LEAVES, all_done, drawn_row, fewest_paintings, stands
from twinleaves.edits import normal_form
from twinleaves.errors import BadChange, BadEdit, BadNumber, TooLarge
from twinleaves.strokes import Strokes, fewest

SAME = ('old', 0, None)


def parts_of(edits, leaves):
    """What stands at the parts of each stretch, by what stands at each leaf."""
    found, last = [], SAME
    for what in stands(edits, leaves):
        if what != SAME and last == SAME:
            found.append([])
        if what not in (SAME, last):
            found[-1].append(what)
        last = what
    return found


def striped(many, first=0, colors=2):
    """Edits of a change of one stretch of so many parts, of one leaf each."""
    return [('map', first + at, 1, first + at + at % colors, 'r') for at in range(many)]


class StrokesTest(unittest.TestCase):

    def judge(self, edits, leaves):
        found = fewest(edits, leaves)
        self.assertIs(found.shows(edits, leaves), True)
        self.assertEqual(found, fewest(tuple(edits), leaves))
        self.assertEqual(stands(found.edits, leaves), stands(edits, leaves))
        self.assertTrue(all(edit[0] in ('map', 'unmap') for edit in found.edits))
        parts = parts_of(edits, leaves)
        self.assertEqual(len(found.numbers), len(parts))
        for table, row in zip(found.numbers, parts):
            pairs = [(low, high) for low in range(len(row) + 1) for high in range(low, len(row) + 1)]
            self.assertEqual(list(table), pairs)
            for low, high in pairs:
                if low == high:
                    self.assertLessEqual(table[(low, high)], 0)
                    continue
                self.assertLessEqual(table[(low, high)], 1 + table[(low + 1, high)])
                for other in range(low + 1, high):
                    if row[other] == row[low]:
                        self.assertLessEqual(table[(low, high)], table[(low + 1, other)] + table[(other, high)])
        self.assertEqual(sum(table[(0, len(row))] for table, row in zip(found.numbers, parts)), len(found.edits))
        return found

    def test_example(self):
        edits = [('map', 0, 2, 10, 'r'), ('unmap', 2, 1), ('map', 3, 2, 13, 'r'), ('unmap', 6, 1)]
        found = self.judge(edits, 8)
        self.assertEqual((len(found.edits), found.numbers[0][(0, 3)]), (3, 2))

    def test_changes(self):
        for edits, many, parts in (([], 0, []), ([('guard', 0, 4, 'r'), ('map', 0, 4, 5, 'r')], 1, [1]), ([('unmap', 0, 8)], 1, [1]),
                                   ([('map', 0, 8, 0, 'r')], 1, [1]), ([('map', 0, 4, 0, 'r'), ('map', 4, 4, 4, 'r')], 1, [1]),
                                   ([('map', 0, 8, 0, 'r'), ('unmap', 2, 1), ('unmap', 4, 1)], 3, [5]),
                                   ([('map', 0, 8, 0, 'r'), ('map', 2, 4, 9, 'r'), ('map', 3, 1, 3, 'r')], 3, [5]),
                                   ([('map', 0, 8, 0, 'r'), ('map', 2, 2, 2, 'rw')], 2, [3]),
                                   ([('map', 0, 3, 0, 'r'), ('unmap', 3, 2), ('map', 5, 3, 5, 'r')], 2, [3]),
                                   ([('map', 0, 3, 0, 'r'), ('unmap', 3, 2), ('map', 5, 3, 6, 'r')], 3, [3]),
                                   ([('map', 0, 3, 0, 'r'), ('map', 4, 3, 4, 'r')], 2, [1, 1]),
                                   ([('unmap', 0, 1), ('unmap', 7, 1), ('map', 3, 1, 1, 'r'), ('unmap', 4, 1)], 4, [1, 2, 1]),
                                   ([('move', 0, 4, 4), ('map', 4, 4, 4, 'r')], 2, [2]),
                                   ([('move', 0, 4, 4), ('unmap', 4, 4)], 1, [1]), ([('share', 0, 4, 0)], 0, []),
                                   ([('move', 0, 2, 2), ('move', 2, 2, 0), ('unmap', 2, 2)], 1, [1])):
            found = self.judge(edits, 8)
            self.assertEqual((len(found.edits), [len(row) for row in parts_of(edits, 8)]), (many, parts), edits)

    def test_frames_at_the_ends(self):
        for edits in ([('map', 3, 1, 0, 'r'), ('unmap', 4, 1), ('map', 5, 1, 2, 'r'), ('unmap', 0, 3)],
                      [('map', 3, 1, 10 ** 9 - 2, 'r'), ('unmap', 4, 1), ('map', 5, 1, 10 ** 9, 'r'), ('unmap', 6, 2)]):
            self.assertEqual(len(self.judge(edits, 8).edits), 3)

    def test_all_paintings(self):
        judged = 0
        for seed in range(400):
            dice = random.Random(seed)
            leaves = dice.choice([4, 5, 6])
            edits = drawn_row(dice, leaves, 10, kinds=('map', 'unmap', 'unmap'), frames=2)
            if dice.random() < 0.7:
                # Frames that stand one behind the other all over.
                edits = [(*edit[:3], edit[1] + edit[3], 'r') if edit[0] == 'map' else edit for edit in edits]
            goal = tuple(stands(edits, leaves))
            colors = sorted(set(goal) - {SAME})
            if len(colors) > 4:
                continue
            judged += 1
            many = fewest_paintings((SAME,) * leaves, goal, colors, lambda cell, color: color)
            self.assertEqual(len(self.judge(edits, leaves).edits), many, edits)
        self.assertGreater(judged, 200)

    def test_rows_that_make_changes_by_all_kinds(self):
        made = 0
        for seed in range(800):
            dice = random.Random(seed)
            leaves = dice.choice([3, 6, 12])
            edits = drawn_row(dice, leaves, 6)
            if all(what[0] != 'old' or what == SAME for what in stands(edits, leaves)):
                made += 1
                self.judge(edits, leaves)
            else:
                for call in (fewest, Strokes([], []).shows):
                    with self.assertRaises(BadChange):
                        call(edits, leaves)
        self.assertGreater(made, 150)

    def test_no_changes(self):
        for edits in ([('guard', 0, 1, 'r')], [('move', 0, 1, 1)], [('share', 1, 1, 0)], [('move', 0, 2, 1)],
                      [('map', 0, 2, 0, 'r'), ('guard', 0, 3, 'rw')]):
            for call in (fewest, Strokes([], []).shows):
                with self.assertRaises(BadChange):
                    call(edits, 8)
        self.judge([('map', 0, 2, 0, 'r'), ('guard', 0, 2, 'rw')], 8)

    def test_parts(self):
        for parts, edits in ((60, self.row_of_parts(60)), (61, self.row_of_parts(61))):
            self.assertEqual([len(row) for row in parts_of(edits, 1000)], [parts])
            if parts == 60:
                self.judge(edits, 1000)
                continue
            for call in (fewest, Strokes([], []).shows):
                with self.assertRaises(TooLarge):
                    call(edits, 1000)
                with self.assertRaises(BadChange):
                    call(edits[:9] + [('guard', 0, 1000, 'r')], 1000)
        both = self.row_of_parts(60)[:9] + [('unmap', 900, 1)]
        self.assertEqual(len(self.judge(both, 1000).numbers), 2)

    def row_of_parts(self, parts):
        """A row of edits that makes a change of one stretch of so many parts, in stripes that are doubled."""
        edits = [('map', 0, 1, 5, 'r'), ('unmap', 1, 1), ('share', 0, 2, 2), ('share', 0, 4, 4), ('share', 0, 8, 8), ('share', 0, 16, 16),
                 ('share', 0, parts - 32, 32)]
        return edits

    def test_large_numbers_of_parts(self):
        start = time.monotonic()
        for many in (1000, 1000000):
            found = self.judge(self.row_of_parts(60), many) if many == 1000 else fewest(self.row_of_parts(60), many)
            self.assertIs(found.shows(self.row_of_parts(60), many), True)
        whole = [('map', 0, 500000, 0, 'r'), ('unmap', 500000, 500000)]
        self.assertEqual(len(fewest(whole, 1000000).edits), 2)
        self.assertLess(time.monotonic() - start, 30)

    def test_bent_evidence(self):
        edits = [('map', 0, 8, 0, 'r'), ('unmap', 2, 1), ('unmap', 4, 1), ('map', 6, 1, 9, 'rw')]
        good = self.judge(edits, 9)
        for change in (lambda one: one.edits.pop(), lambda one: one.edits.append(one.edits[0]), lambda one: one.edits.reverse(),
                       lambda one: one.edits.append(('unmap', 8, 1)), lambda one: one.edits.append(('unmap', 4, 1)),
                       lambda one: one.edits.__setitem__(0, ('map', 0, 8, 1, 'r')), lambda one: one.edits.__setitem__(0, ('map', 0, 9, 0, 'r')),
                       lambda one: one.edits.append(('guard', 0, 2, 'r')), lambda one: one.edits.append(('move', 2, 1, 2)),
                       lambda one: one.edits.append(('unmap', 9, 1)), lambda one: one.edits.append(('unmap', -1, 1)),
                       lambda one: one.numbers.pop(), lambda one: one.numbers.append({(0, 0): 0}),
                       lambda one: one.numbers[0].__setitem__((0, 7), 3), lambda one: one.numbers[0].__setitem__((0, 7), 5),
                       lambda one: one.numbers[0].__setitem__((3, 3), 1), lambda one: one.numbers[0].__setitem__((6, 7), 2),
                       lambda one: one.numbers[0].pop((3, 3)), lambda one: one.numbers[0].__setitem__((7, 8), 0)):
            bent = copy.deepcopy(good)
            change(bent)
            self.assertIs(bent.shows(edits, 9), False, (bent.edits, bent.numbers))
        for change in (lambda one: one.numbers[0].__setitem__((3, 3), -1), lambda one: one.numbers[0].__setitem__((1, 3), -10 ** 30)):
            bent = copy.deepcopy(good)
            change(bent)
            # A number that is less than it could be rules fewer out, and is right only where nothing rests on it.
            self.assertIs(bent.shows(edits, 9), self.holds(bent.numbers[0], parts_of(edits, 9)[0]))
        # One edit more than is needed, with numbers that would have to be greater.
        bent = copy.deepcopy(good)
        bent.edits.insert(0, ('unmap', 0, 8))
        bent.numbers[0][(0, 7)] += 1
        self.assertIs(bent.shows(edits, 9), False)
        self.assertIs(good.shows(edits, 8), True)
        self.assertIs(good.shows(edits[:3], 9), False)
        self.assertIs(Strokes([], []).shows([], 8), True)

    def test_other_edits_that_come_to_the_same(self):
        one, numbers = ('map', 0, 2, 0, 'r'), {(0, 0): 0, (0, 1): 1, (1, 1): 0}
        twice = [one, ('map', 4, 2, 0, 'r')]
        for edits, shows in ((twice, True), (twice[::-1], True), ([one, ('share', 0, 2, 4)], False), ([twice[1], ('share', 4, 2, 0)], False)):
            self.assertEqual(normal_form(edits, 8), normal_form(twice, 8))
            self.assertIs(Strokes(edits, [numbers, numbers]).shows(twice, 8), shows)
        for change, edit, shows in ((('unmap', 7, 1), ('unmap', 7, 1), True), (('unmap', 7, 1), ('unmap', 7, 2), False),
                                    (('unmap', 0, 1), ('unmap', -1, 2), False), (('map', 7, 1, 5, 'r'), ('map', 7, 2, 5, 'r'), False),
                                    (('map', 0, 8, 0, 'r'), ('map', 0, 9, 0, 'r'), False), (('map', 0, 1, 0, 'r'), ('map', -1, 2, -1, 'r'), False),
                                    (('unmap', 0, 8), ('unmap', 0, 10 ** 30), False)):
            self.assertIs(Strokes([edit], [numbers]).shows([change], 8), shows, edit)
        # A guard beside a map that has the other right.
        self.assertIs(Strokes([('map', 0, 2, 0, 'rw'), ('guard', 0, 2, 'r')], [{**numbers, (0, 1): 2}]).shows([one], 8), False)

    def holds(self, table, row):
        """Whether a table is bounded as the document says."""
        for low, high in table:
            bounds = [0] if low == high else [1 + table[(low + 1, high)]] + [
                table[(low + 1, other)] + table[(other, high)] for other in range(low + 1, high) if row[other] == row[low]]
            if table[(low, high)] > min(bounds):
                return False
        return True

    def test_as_evidence(self):
        table = {(0, 0): 0, (0, 1): 1, (1, 1): 0}
        one = Strokes((('unmap', 0, 1),), (table,))
        self.assertEqual((one.edits, one.numbers), ([('unmap', 0, 1)], [table]))
        self.assertTrue(one.numbers[0] is not table and one == Strokes([('unmap', 0, 1)], [dict(table)]))
        self.assertIs(one.shows([('unmap', 0, 1)], 3), True)
        for other in (Strokes([], [table]), Strokes([('unmap', 0, 1)], []), None):
            self.assertNotEqual(one, other)

    def test_wrong_arguments(self):
        for call in (fewest, Strokes([], []).shows):
            for leaves in NO_LEAVES:
                with self.assertRaises(BadNumber):
                    call(None, leaves)
            for wrong in NO_EDITS:
                with self.assertRaises(BadEdit) as caught:
                    call([('guard', 0, 1, 'r'), wrong], 8)
                self.assertEqual(caught.exception.place, 1)
            for wrong in (None, {}, [('unmap', 0, 1)] * 11):
                with self.assertRaises(BadEdit) as caught:
                    call(wrong, 8)
                self.assertIsNone(caught.exception.place)

    def test_arguments_stay(self):
        edits = [('map', 0, 2, 0, 'r')]
        found = fewest(edits, 4)
        found.edits.append(5)
        found.numbers[0].clear()
        self.assertEqual((edits, fewest(edits, 4).edits), ([('map', 0, 2, 0, 'r')], edits))
        self.assertEqual(all_done(fewest(edits, 4).edits, {}), {0: (0, 'r'), 1: (1, 'r')})
        self.assertEqual(normal_form(fewest(striped(9), 9).edits, 9), normal_form(striped(9), 9))


if __name__ == '__main__':
    unittest.main()
