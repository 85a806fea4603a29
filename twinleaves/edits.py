"""Rows of edits, and what stands behind them for all books."""

from twinleaves.checks import is_between, is_from
from twinleaves.errors import BadBook, BadEdit, BadNumber
from twinleaves.evidence import new_dict
from twinleaves.layouts import MOST_FRAME, is_entry
from twinleaves.scripts import RIGHTS

MOST_LEAVES = 1000000
MOST_EDITS = 10
# Behind more stretches than these the entries of a book are changed before the next edit.
MOST_STRETCHES = 20

NONE = ("none",)
SAME = ("old", 0, None)


def normal_form(edits, leaves):
    """The normal form of a row of edits: pairs of the first leaf of a stretch and what stands there."""
    judge_row(edits, leaves)
    return form_behind(edits, leaves)


def edited(edits, leaves, book):
    """The book behind a row of edits, its leaves in ascending order."""
    judge_row(edits, leaves)
    judge_book(book, leaves)
    found = new_dict(book)
    change_entries(found, form_behind(edits, leaves), leaves)
    return {leaf: found[leaf] for leaf in sorted(found)}


def judge_leaves(leaves):
    """Raise BadNumber unless a book can have so many leaves."""
    if not is_between(leaves, 1, MOST_LEAVES):
        raise BadNumber("a book has from 1 to 1000000 leaves")


def judge_row(edits, leaves):
    """Raise BadNumber or BadEdit unless this is a row of edits for books with so many leaves."""
    judge_leaves(leaves)
    judge_edits(edits, leaves)


def judge_edits(edits, leaves):
    """Raise BadEdit unless this is a row of edits for books with so many leaves."""
    if not isinstance(edits, (list, tuple)) or len(edits) > MOST_EDITS:
        raise BadEdit(None)
    judge_each(edits, leaves)


def judge_each(edits, leaves):
    """Raise BadEdit with the place of the first one, among any number, that is no edit."""
    for place, edit in enumerate(edits):
        if not is_edit(edit, leaves):
            raise BadEdit(place)


def judge_book(book, leaves):
    """Raise BadBook unless this is a book with so many leaves."""
    if not is_book(book, leaves):
        raise BadBook("this is no book")


def is_book(thing, leaves):
    """Whether a value of any kind is a book with so many leaves."""
    if not isinstance(thing, dict):
        return False
    return all([is_between(leaf, 0, leaves - 1) and is_entry(pair) for leaf, pair in thing.items()])


def is_run(first, many, leaves):
    """Whether so many leaves from a first one on lie within the leaves."""
    return is_from(first, 0) and is_from(many, 1) and first + many <= leaves


def is_edit(thing, leaves):
    """Whether a value of any kind is an edit of books with so many leaves."""
    if not isinstance(thing, tuple) or len(thing) < 3 or not is_run(thing[1], thing[2], leaves):
        return False
    kind, many, rest = thing[0], thing[2], thing[3:]
    if kind == "map":
        return len(rest) == 2 and is_between(rest[0], 0, MOST_FRAME + 1 - many) and rest[1] in RIGHTS
    if kind == "unmap":
        return len(rest) == 0
    if kind == "guard":
        return len(rest) == 1 and rest[0] in RIGHTS
    return kind in ("move", "share") and len(rest) == 1 and is_run(rest[0], many, leaves)


def form_behind(edits, leaves):
    """The normal form of edits of any number."""
    form = [(0, SAME)]
    for edit in edits:
        form = form_after(form, edit, leaves)
    return form


def form_after(form, edit, leaves):
    """A normal form with one more edit behind it."""
    kind, first, many = edit[:3]
    end = first + many
    if kind == "map":
        return laid(form, [(first, ("to", edit[3] - first, edit[4]))], end, leaves)
    if kind == "unmap":
        return laid(form, [(first, NONE)], end, leaves)
    rows = part_of(form, first, end)
    if kind == "guard":
        return laid(form, [(at, guarded(what, edit[3])) for at, what in rows], end, leaves)
    far = edit[3] - first
    if kind == "move":
        # Those among the leaves from goal on are laid over again.
        form = laid(form, [(first, NONE)], end, leaves)
    return laid(form, [(at + far, moved(what, far)) for at, what in rows], end + far, leaves)


def part_of(form, low, high):
    """The stretches of a normal form from a leaf to ahead of another one."""
    if low == high:
        return []
    return [(low, what_at(form, low))] + [(at, what) for at, what in form if low < at < high]


def what_at(form, leaf):
    """What stands at a leaf, of a normal form."""
    return [what for at, what in form if at <= leaf][-1]


def laid(form, rows, end, leaves):
    """A normal form over which stretches are laid that end ahead of a leaf."""
    first = rows[0][0]
    found = []
    for at, what in [pair for pair in form if pair[0] < first] + rows + part_of(form, end, leaves):
        if len(found) == 0 or found[-1][1] != what:
            found.append((at, what))
    return found


def guarded(what, right):
    """What stands at a leaf that gets a right."""
    return what if what == NONE else (what[0], what[1], right)


def moved(what, far):
    """What stands at a leaf, told at one that lies so far behind it."""
    return what if what == NONE else (what[0], what[1] - far, what[2])


def stretches(form, leaves):
    """Triples of the first leaf of a stretch, the leaf behind it, and what stands there."""
    ends = [at for at, _ in form[1:]] + [leaves]
    return [(at, end, what) for (at, what), end in zip(form, ends)]


def entry_behind(what, leaf, book):
    """The entry of a leaf for what stands there and a book ahead of the edits, None without one."""
    if what == NONE:
        return None
    if what[0] == "to":
        return (leaf + what[1], what[2])
    old = book.get(leaf + what[1])
    if old is None or what[2] is None:
        return old
    return (old[0], what[2])


def change_by_edits(book, edits, leaves):
    """Change the entries of a book by edits of any number."""
    form = [(0, SAME)]
    for edit in edits:
        form = form_after(form, edit, leaves)
        if len(form) > MOST_STRETCHES:
            change_entries(book, form, leaves)
            form = [(0, SAME)]
    change_entries(book, form, leaves)


def change_entries(book, form, leaves):
    """Change the entries of a book to those behind edits with a normal form."""
    fresh, gone = {}, []
    for first, end, what in stretches(form, leaves):
        if what == SAME:
            continue
        gone.extend(leaves_within(book, first, end))
        for leaf in leaves_changed(book, first, end, what):
            fresh[leaf] = entry_behind(what, leaf, book)
    for leaf in gone:
        del book[leaf]
    book.update(fresh)


def leaves_changed(book, first, end, what):
    """The leaves of a stretch that have an entry for what stands there."""
    if what == NONE:
        return []
    if what[0] == "to":
        return list(range(first, end))
    return [leaf - what[1] for leaf in leaves_within(book, first + what[1], end + what[1])]


def leaves_within(book, low, high):
    """The leaves of a book from one to ahead of another one."""
    if high - low < len(book):
        return [leaf for leaf in range(low, high) if leaf in book]
    return [leaf for leaf in book if low <= leaf < high]
