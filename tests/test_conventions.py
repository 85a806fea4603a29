"""What holds of all functions and classes of evidence: [1]."""

import copy
import unittest

from tests.model import Maker
from twinleaves.alikes import Unlike, unlike
from twinleaves.anew import anew
from twinleaves.copies import Copies, least_copies
from twinleaves.entries import Entries
from twinleaves.errors import LeafError
from twinleaves.frames import Frames, least_frames, needed_frames
from twinleaves.goings import Parting, parting
from twinleaves.lazy import lazily, least_limit
from twinleaves.needs import Needed, may_exchange, needed
from twinleaves.runs import inputs_of, run, shown
from twinleaves.scripts import Script
from twinleaves.shelves import books, most_books
from twinleaves.storing import stored
from twinleaves.telling import Hides, Tells, tells
from twinleaves.turns import Turning, UnlikeTurns, unlike_turns
from twinleaves.writing import write_script

X, Y = ('input', 'x'), ('input', 'y')


def all_told(script):
    """What all shows of a script tell of x."""
    return tells(script, X, list(range(len(run(script).seen))))


def shelved(script):
    return books(script, 2, 1)


def most_shelved(script):
    return most_books(script, 2, 1)


def in_room(script):
    return stored(script, 1, 'oldest')


def turned(one, other):
    """Whether two scripts, with the first one's last steps turned, are alike."""
    return unlike_turns(Turning(2, 2, one.steps, other.steps[-2:], []), Turning(2, 2, one.steps, one.steps[-2:], []))


ONE = [run, inputs_of, write_script, lazily, least_limit, needed, least_copies, anew, least_frames, needed_frames, shelved,
       most_shelved, in_room, all_told]
TWO = [unlike, parting, turned]
EVIDENCE = [Unlike({}, 0), Parting([], {}), Needed([], []), Copies([], [], []), Frames(0, [], {}), UnlikeTurns(0, {}, 0),
            Tells([]), Hides({}, {}), Entries([], [])]


def scripts():
    return [Script(2, 2, Maker(seed, 2, 2).steps(16)) for seed in range(25)]


def asked(call, *told):
    """What a call returns, or the error that it raises."""
    try:
        return call(*told)
    except LeafError as wrong:
        return type(wrong)


class ConventionsTest(unittest.TestCase):

    def test_asked_again(self):
        for one in scripts():
            like = Script(one.leaves, one.cells, list(one.steps))
            for call in ONE:
                self.assertEqual(asked(call, one), asked(call, like))
            for other in scripts()[:5]:
                for call in TWO:
                    self.assertEqual(asked(call, one, other), asked(call, like, other))

    def test_arguments_stay(self):
        for one in scripts():
            told = one.leaves, one.cells, one.steps
            for call in ONE:
                asked(call, one)
            for call in TWO:
                asked(call, one, scripts()[0])
            for call, wrong in ((lazily, -1), (may_exchange, 300), (shown, {5: 1}), (unlike, None), (parting, 5)):
                self.assertTrue(issubclass(asked(call, one, wrong), LeafError))
            self.assertEqual((one.leaves, one.cells, one.steps), told)
        values = {Y: 1, X: 2}
        shown(scripts()[0], values)
        self.assertEqual(list(values), [Y, X])

    def test_answers_are_new(self):
        for one in scripts():
            for call in (run, needed, least_copies, lazily, inputs_of, least_frames, needed_frames, shelved, in_room, all_told):
                found = asked(call, one)
                before = copy.deepcopy(found)
                for rows in [found] if isinstance(found, (list, dict)) else vars(found).values():
                    if isinstance(rows, list):
                        rows.append('more')
                    elif isinstance(rows, dict):
                        rows.clear()
                self.assertEqual(asked(call, one), before)

    def test_evidence_that_is_refused_stays(self):
        one = scripts()[0]
        for found in (Unlike({5: 1}, 0), Parting([], {5: 1}), Needed([], []), Copies([], [], []), Frames(0, [], {5: 1}),
                      UnlikeTurns(0, {5: 1}, 0), Tells([]), Hides({5: 1}, {}), Entries([], [])):
            before = copy.deepcopy(found)
            for told in ((None,), (None, one), (one, 5), (one, one), (one, X, [-1]), (one, 5, []), (None, X, [])):
                parts = 3 if isinstance(found, (Tells, Hides)) else 1 + isinstance(found, (Unlike, Parting, UnlikeTurns, Entries))
                if len(told) == parts:
                    self.assertTrue(issubclass(asked(found.shows, *told), LeafError))
            self.assertEqual(found, before)

    def test_unlike_kinds(self):
        for one in EVIDENCE:
            for other in copy.deepcopy(EVIDENCE):
                self.assertEqual(one == other, type(one) is type(other))

    def test_lists_for_tuples(self):
        self.assertEqual(Copies((), (), ()), Copies([], [], []))
        self.assertEqual(Needed((1,), ()), Needed([1], []))
        self.assertEqual(Parting((('end', 'a'),), {}), Parting([('end', 'a')], {}))
        self.assertEqual((Frames(0, (), {}), Tells(((1, 2),)), Entries((), ())), (Frames(0, [], {}), Tells([(1, 2)]), Entries([], [])))
        for rows in (Frames(0, (), {}).leaves, Tells(()).factors, Entries((), ()).runs, Entries((), ()).leaves):
            self.assertIs(type(rows), list)
        for rows in (Copies((), (), ()).joins, Copies((), (), ()).plan, Copies((), (), ()).marks, Needed((), ()).places,
                     Needed((), ()).reasons, Parting((), {}).steps):
            self.assertIs(type(rows), list)


if __name__ == '__main__':
    unittest.main()
