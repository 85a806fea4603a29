"""What holds of all functions and classes of evidence: [1]."""

import copy
import unittest

from tests.model import Maker
from twinleaves.alikes import Unlike, unlike
from twinleaves.anew import anew
from twinleaves.arranging import Arranged, arranged
from twinleaves.compacting import Memory, Moves, fewest_moves
from twinleaves.copies import Copies, least_copies
from twinleaves.editing import Telling, commute, lost, telling
from twinleaves.edits import edited, normal_form
from twinleaves.entries import Entries, entries
from twinleaves.entries import books as books_needed
from twinleaves.errors import LeafError
from twinleaves.evicting import Least, least_price
from twinleaves.frames import Frames, least_frames, needed_frames
from twinleaves.goings import Parting, parting
from twinleaves.greatest import Busy, busiest, most_copies
from twinleaves.guarding import Guards, fewest_guards
from twinleaves.lazy import lazily, least_limit
from twinleaves.needs import Needed, may_exchange, needed
from twinleaves.placing import Placing, placing
from twinleaves.requests import Refused, Served, judge_requests
from twinleaves.runs import inputs_of, run, shown
from twinleaves.scripts import Script
from twinleaves.shapes import Shape
from twinleaves.sharing import Shared, shared, unshared
from twinleaves.shelves import books, most_books
from twinleaves.storing import stored
from twinleaves.strokes import Strokes, fewest
from twinleaves.telling import Hides, Tells, tells
from twinleaves.turns import Turning, UnlikeTurns, unlike_turns
from twinleaves.writing import write_script

X, Y = ('input', 'x'), ('input', 'y')


def all_told(script):
    """What all shows of a script tell of x."""
    return tells(script, X, list(range(len(run(script).seen))))


def shelved(script):
    return books(script, 2, 1)


def most_shelved(script):
    return most_books(script, 2, 1)


def in_room(script):
    return stored(script, 1, 'oldest')


def turned(one, other):
    """Whether two scripts, with the first one's last steps turned, are alike."""
    return unlike_turns(Turning(2, 2, one.steps, other.steps[-2:], []), Turning(2, 2, one.steps, one.steps[-2:], []))


ONE = [run, inputs_of, write_script, lazily, least_limit, needed, least_copies, anew, least_frames, needed_frames, shelved,
       most_shelved, in_room, all_told]
TWO = [unlike, parting, turned]
EVIDENCE = [Unlike({}, 0), Parting([], {}), Needed([], []), Copies([], [], []), Frames(0, [], {}), UnlikeTurns(0, {}, 0),
            Tells([]), Hides({}, {}), Entries([], []), Placing({}, []), Telling({}, 0), Strokes([], []), Moves([], []), Served([]),
            Refused([]), Least(0, [], []), Busy(0, []), Shared([], []), Arranged([], 0, []), Guards([], {}, []), Memory(1, 1, [], [])]

LAYOUT = {5: (9, 'r'), 4: (8, 'r'), 0: (3, 'rw')}
ROW = [('map', 2, 3, 5, 'rw'), ('unmap', 0, 3)]
GOALS, WEIGHTS = {3: 2, 0: 1, 1: 0}, {3: 1, 1: 4, 0: 2, 9: 'more'}
BOOK, WANTED = {7: (1, 'r'), 2: (1, 'rw'), 4: (0, 'r')}, {4: 'rw', 7: 'rw', 2: 'r'}

# Functions with arguments, dicts among them whose keys do not ascend.
DOORS = [(entries, Shape(2, 3, 2), LAYOUT), (books_needed, Shape(2, 3, 2), LAYOUT), (placing, Shape(2, 3, 2), {5: 'r', 0: 'rw', 4: 'r'}, [3, 6, 7, 9]),
         (shared, Shape(2, 3, 1), [LAYOUT, {}, LAYOUT]), (unshared, Shape(2, 3, 1), shared(Shape(2, 3, 1), [LAYOUT, {}])), (normal_form, ROW, 8),
         (edited, ROW, 8, BOOK), (telling, ROW, ROW[:1], 8), (commute, ROW, ROW[:1], 8), (lost, ROW, 8), (fewest, ROW, 8),
         (fewest_moves, Memory(2, 3, [0, 3, 4], [0]), 1), (judge_requests, 'first', 4, [1, 2], 4), (judge_requests, 'tight', 4, [1, 2], 3),
         (arranged, 5, GOALS, WEIGHTS), (least_price, [4, 1, 4, 1], {4: 2, 1: 3}, 2), (most_copies, 2, 3, 5), (busiest, 2, 3, 5),
         (fewest_guards, 9, BOOK, WANTED)]


def scripts():
    return [Script(2, 2, Maker(seed, 2, 2).steps(16)) for seed in range(25)]


def laid_open(thing):
    """A value with all that is in it, dicts with their order."""
    if isinstance(thing, dict):
        return 'dict', [(key, laid_open(thing[key])) for key in thing]
    if isinstance(thing, (list, tuple)):
        return type(thing), [laid_open(part) for part in thing]
    return laid_open(vars(thing)) if hasattr(thing, '__dict__') else thing


def asked(call, *told):
    """What a call returns, or the error that it raises."""
    try:
        return call(*told)
    except LeafError as wrong:
        return type(wrong)


class ConventionsTest(unittest.TestCase):

    def test_asked_again(self):
        for one in scripts():
            like = Script(one.leaves, one.cells, list(one.steps))
            for call in ONE:
                self.assertEqual(asked(call, one), asked(call, like))
            for other in scripts()[:5]:
                for call in TWO:
                    self.assertEqual(asked(call, one, other), asked(call, like, other))

    def test_arguments_stay(self):
        for one in scripts():
            told = one.leaves, one.cells, one.steps
            for call in ONE:
                asked(call, one)
            for call in TWO:
                asked(call, one, scripts()[0])
            for call, wrong in ((lazily, -1), (may_exchange, 300), (shown, {5: 1}), (unlike, None), (parting, 5)):
                self.assertTrue(issubclass(asked(call, one, wrong), LeafError))
            self.assertEqual((one.leaves, one.cells, one.steps), told)
        values = {Y: 1, X: 2}
        shown(scripts()[0], values)
        self.assertEqual(list(values), [Y, X])

    def test_answers_are_new(self):
        for one in scripts():
            for call in (run, needed, least_copies, lazily, inputs_of, least_frames, needed_frames, shelved, in_room, all_told):
                found = asked(call, one)
                before = copy.deepcopy(found)
                for rows in [found] if isinstance(found, (list, dict)) else vars(found).values():
                    if isinstance(rows, list):
                        rows.append('more')
                    elif isinstance(rows, dict):
                        rows.clear()
                self.assertEqual(asked(call, one), before)

    def test_doors(self):
        for call, *told in DOORS:
            before = copy.deepcopy(told)
            found = call(*told)
            first = copy.deepcopy(found)
            self.assertEqual(laid_open(told), laid_open(before), call)
            self.assertEqual(call(*before), found, call)
            if hasattr(found, 'shows'):
                self.assertIs(found.shows(*told), True, call)
                for _, rows in vars(found).items():
                    if isinstance(rows, dict):
                        self.assertEqual(list(rows), sorted(rows), call)
            for rows in [found] if isinstance(found, (list, dict)) else vars(found).values() if hasattr(found, '__dict__') else []:
                for row in rows if isinstance(rows, list) else []:
                    if isinstance(row, dict):
                        self.assertEqual(list(row), sorted(row), call)
                        row.clear()
                if isinstance(rows, (list, dict)):
                    rows.clear()
            self.assertEqual(call(*told), first, call)

    def test_evidence_that_is_refused_stays(self):
        one = scripts()[0]
        for found in (Unlike({5: 1}, 0), Parting([], {5: 1}), Needed([], []), Copies([], [], []), Frames(0, [], {5: 1}),
                      UnlikeTurns(0, {5: 1}, 0), Tells([]), Hides({5: 1}, {}), Entries([], [])):
            before = copy.deepcopy(found)
            for told in ((None,), (None, one), (one, 5), (one, one), (one, X, [-1]), (one, 5, []), (None, X, [])):
                parts = 3 if isinstance(found, (Tells, Hides)) else 1 + isinstance(found, (Unlike, Parting, UnlikeTurns, Entries))
                if len(told) == parts:
                    self.assertTrue(issubclass(asked(found.shows, *told), LeafError))
            self.assertEqual(found, before)

    def test_unlike_kinds(self):
        for one in EVIDENCE:
            for other in copy.deepcopy(EVIDENCE):
                self.assertEqual(one == other, type(one) is type(other))

    def test_lists_for_tuples(self):
        self.assertEqual(Copies((), (), ()), Copies([], [], []))
        self.assertEqual(Needed((1,), ()), Needed([1], []))
        self.assertEqual(Parting((('end', 'a'),), {}), Parting([('end', 'a')], {}))
        self.assertEqual((Frames(0, (), {}), Tells(((1, 2),)), Entries((), ())), (Frames(0, [], {}), Tells([(1, 2)]), Entries([], [])))
        for rows in (Frames(0, (), {}).leaves, Tells(()).factors, Entries((), ()).runs, Entries((), ()).leaves):
            self.assertIs(type(rows), list)
        for one in EVIDENCE:
            if not isinstance(one, Memory):
                rows = [tuple(part) if isinstance(part, list) else part for part in vars(one).values()]
                self.assertEqual(type(one)(*rows), one)
                self.assertEqual([type(part) for part in vars(type(one)(*rows)).values()], [type(part) for part in vars(one).values()])
        for rows in (Copies((), (), ()).joins, Copies((), (), ()).plan, Copies((), (), ()).marks, Needed((), ()).places,
                     Needed((), ()).reasons, Parting((), {}).steps):
            self.assertIs(type(rows), list)


if __name__ == '__main__':
    unittest.main()
