"""How few guards give the leaves of a book the rights that are wanted."""

from twinleaves.checks import is_integer
from twinleaves.edits import is_edit, judge_book, judge_leaves
from twinleaves.errors import BadBook, TooLarge
from twinleaves.evidence import new_dict, new_list
from twinleaves.painting import is_bounded, least_strokes, strokes_between
from twinleaves.scripts import RIGHTS

MOST_GUARDED = 60


class Guards:
    """Guards, and numbers for runs of leaves and for first leaves that rule out fewer."""

    def __init__(self, edits, table, firsts):
        self.edits = new_list(edits)
        self.table = new_dict(table)
        self.firsts = new_list(firsts)

    def __eq__(self, other):
        return (isinstance(other, Guards) and self.edits == other.edits and self.table == other.table
                and self.firsts == other.firsts)

    def shows(self, leaves, book, wanted):
        """Whether these guards give the leaves of a book their rights, and the numbers rule out fewer."""
        judge_guarded(leaves, book, wanted)
        if not all([edit[0] == "guard" and is_edit(edit, leaves) for edit in self.edits]):
            return False
        if rights_behind(book, self.edits) != wanted:
            return False
        marks, there = rights_wanted(book, wanted)
        if not is_bounded(self.table, marks) or len(self.firsts) != len(marks) + 1:
            return False
        bounds = [firsts_bound(self.table, self.firsts, there, high) for high in range(len(self.firsts))]
        return self.firsts[-1] == len(self.edits) and all([low <= high for low, high in zip(self.firsts, bounds)])


def judge_guarded(leaves, book, wanted):
    """Raise BadNumber, BadBook or TooLarge unless these are a book, and rights for just its leaves, not too many."""
    judge_leaves(leaves)
    judge_book(book, leaves)
    if not isinstance(wanted, dict) or len(wanted) != len(book):
        raise BadBook("not just the leaves of the book are wanted")
    if not all([is_integer(leaf) and leaf in book and right in RIGHTS for leaf, right in wanted.items()]):
        raise BadBook("what is wanted is no leaf of the book with a right")
    if len(book) > MOST_GUARDED:
        raise TooLarge("the book has more than 60 leaves")


def rights_behind(book, edits):
    """The rights of the leaves of a book behind guards."""
    rights = {leaf: right for leaf, (_, right) in book.items()}
    for _, first, many, right in edits:
        for leaf in book:
            if first <= leaf < first + many:
                rights[leaf] = right
    return rights


def rights_wanted(book, wanted):
    """For the leaves in ascending order the rights that are wanted, and whether they are there already."""
    marks = [wanted[leaf] for leaf in sorted(book)]
    return marks, [book[leaf][1] == wanted[leaf] for leaf in sorted(book)]


def firsts_bound(table, firsts, there, high):
    """The greatest number that is let for so many first leaves by the numbers of fewer ones."""
    if high == 0:
        return 0
    sums = [firsts[low] + table[(low, high)] for low in range(high)]
    return min(sums + [firsts[high - 1]]) if there[high - 1] else min(sums)


def fewest_guards(leaves, book, wanted):
    """A Guards for a book and the rights that are wanted."""
    judge_guarded(leaves, book, wanted)
    marks, there = rights_wanted(book, wanted)
    table, goes = least_strokes(marks)
    firsts = []
    for high in range(len(marks) + 1):
        firsts.append(firsts_bound(table, firsts, there, high))
    row = sorted(book)
    strokes = [stroke for low, high in painted_runs(table, firsts, there)
               for stroke in strokes_between(goes, low, high)]
    edits = [("guard", row[low], row[high] + 1 - row[low], marks[low]) for low, high in strokes]
    return Guards(edits, table, firsts)


def painted_runs(table, firsts, there):
    """The runs of places that get guards, from the last one back, by the numbers of first leaves."""
    runs = []
    high = len(there)
    while high > 0:
        if there[high - 1]:
            # A leaf that has its right already makes no difference.
            high = high - 1
            continue
        low = [at for at in range(high) if firsts[at] + table[(at, high)] == firsts[high]][0]
        runs.append((low, high))
        high = low
    return runs
