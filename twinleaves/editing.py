"""Whether two rows of edits give the same for all books, and which leaves a row loses."""

from twinleaves.checks import is_between
from twinleaves.edits import (NONE, entry_behind, form_behind, is_book, judge_edits, judge_leaves, judge_row, stretches,
                              what_at)
from twinleaves.evidence import new_dict


class Telling:
    """A book, and a leaf at which two rows of edits give it something else."""

    def __init__(self, book, leaf):
        self.book = new_dict(book)
        self.leaf = leaf

    def __eq__(self, other):
        return isinstance(other, Telling) and self.book == other.book and self.leaf == other.leaf

    def shows(self, one, other, leaves):
        """Whether two rows of edits give the book something else at the leaf."""
        judge_rows(one, other, leaves)
        if not is_book(self.book, leaves) or not is_between(self.leaf, 0, leaves - 1):
            return False
        whats = [what_at(form_behind(edits, leaves), self.leaf) for edits in (one, other)]
        found = [entry_behind(what, self.leaf, self.book) for what in whats]
        return found[0] != found[1]


def judge_rows(one, other, leaves):
    """Raise BadNumber, or BadEdit unless these are rows of edits for books with so many leaves."""
    judge_leaves(leaves)
    judge_edits(one, leaves)
    judge_edits(other, leaves)


def telling(one, other, leaves):
    """A Telling of two rows of edits, None if they give the same for all books."""
    judge_rows(one, other, leaves)
    forms = [form_behind(edits, leaves) for edits in (one, other)]
    for at in sorted({at for form in forms for at, _ in form}):
        whats = [what_at(form, at) for form in forms]
        if whats[0] != whats[1]:
            return Telling(book_for(whats[0], whats[1], at), at)
    return None


def book_for(one, other, leaf):
    """A book for which two things that stand at a leaf, not the same, are something else."""
    olds = [what for what in (one, other) if what[0] == "old"]
    # The frame of a map is there for the empty book, and nothing else is.
    if len(olds) == 0 or (len(olds) == 1 and NONE not in (one, other)):
        return {}
    rights = [what[2] for what in olds]
    # An entry that has the right which one of both gives would not tell it from the other, which gives none.
    right = "rw" if "r" in rights else "r"
    return {leaf + olds[0][1]: (0, right)}


def commute(one, other, leaves):
    """Whether two rows of edits give the same in both orders, for all books."""
    judge_rows(one, other, leaves)
    return form_behind([*one, *other], leaves) == form_behind([*other, *one], leaves)


def lost(edits, leaves):
    """The first leaf that a row of edits loses, None if there is none."""
    judge_row(edits, leaves)
    kept = [(first + what[1], end + what[1]) for first, end, what in stretches(form_behind(edits, leaves), leaves)
            if what[0] == "old" and what[2] is None]
    reach = 0
    for low, high in sorted(kept):
        if low > reach:
            break
        reach = max(reach, high)
    return None if reach == leaves else reach
