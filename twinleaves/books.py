"""Books of leaves as objects."""

from twinleaves.checks import is_between, is_integer
from twinleaves.edits import change_by_edits, is_edit, judge_each, judge_leaves, leaves_within
from twinleaves.errors import BadBook, BadNumber, BadText, NoLeaf
from twinleaves.layouts import MOST_FRAME, is_entry
from twinleaves.scripts import RIGHTS

MOST_FIGURES = 10


class Book:
    """Entries, pairs of a frame and a right, for some of so many leaves, and the right that frames alone get."""

    MOST = 1000000

    def __init__(self, leaves, entries=None, *, right="r"):
        judge_leaves(leaves)
        judge_right(right)
        self._room = leaves
        self._usual = right
        self._entries = {} if entries is None else entries_of(entries, leaves, right)
        self._changes = 0

    @staticmethod
    def of(leaves, *runs, right="r"):
        """The Book of runs, triples of a first leaf, a number and a frame, later ones over earlier ones."""
        judge_leaves(leaves)
        if not all([is_run_of_map(run, right, leaves) for run in runs]):
            raise BadBook("this is no run of leaves that get frames")
        return book_of_maps(leaves, [("map", *run, right) for run in runs], right)

    @staticmethod
    def parsed(text, *, leaves=16):
        """The Book of a text of runs, later ones over earlier ones."""
        judge_leaves(leaves)
        if not isinstance(text, str):
            raise BadText(0, 0)
        maps = [map_in(piece, column, leaves) for piece, column in pieces_between(text)]
        return book_of_maps(leaves, maps, RIGHTS[0])

    @staticmethod
    def is_entry(thing):
        """Whether a value of any kind is a pair of a frame and a right."""
        return is_entry(thing)

    @property
    def room(self):
        """The number of leaves."""
        return self._room

    @property
    def usual(self):
        """The right that frames alone get."""
        return self._usual

    @usual.setter
    def usual(self, value):
        judge_right(value)
        self._usual = value

    def __eq__(self, other):
        return isinstance(other, Book) and self._room == other._room and self._entries == other._entries

    def __len__(self):
        return len(self._entries)

    def __iter__(self):
        raise TypeError("a Book is not iterated over")

    def __contains__(self, x):
        # True and numbers with a point would be found as integers.
        return is_integer(x) and x in self._entries

    def __getitem__(self, at):
        if at not in self:
            raise NoLeaf(at)
        return self._entries[at]

    def __setitem__(self, at, worth):
        if not is_between(at, 0, self._room - 1):
            raise BadNumber("this is no leaf of the book")
        self._entries[at] = entry_of(worth, self._usual)
        self._changes = self._changes + 1

    def __call__(self, leaf, default=None):
        return self._entries[leaf][0] if leaf in self else default

    def __or__(self, other):
        if isinstance(other, Book):
            return book_of_both(max(self._room, other._room), self._entries, other._entries, self._usual)
        if isinstance(other, dict):
            return book_of_both(self._room, self._entries, entries_of(other, self._room, self._usual), self._usual)
        return NotImplemented

    def __ror__(self, other):
        if isinstance(other, dict):
            return book_of_both(self._room, entries_of(other, self._room, self._usual), self._entries, self._usual)
        return NotImplemented

    def __ior__(self, other):
        if not isinstance(other, (Book, dict)):
            return NotImplemented
        told = other._entries if isinstance(other, Book) else other
        fresh = entries_of(told, self._room, self._usual)
        for leaf in fresh:
            self._entries[leaf] = fresh[leaf]
        self._changes = self._changes + 1
        return self

    def __sub__(self, other):
        if isinstance(other, Book):
            return book_without(self._room, self._entries, other._entries, self._usual)
        if isinstance(other, dict):
            return book_without(self._room, self._entries, entries_of(other, self._room, self._usual), self._usual)
        return NotImplemented

    def drop(self, *leaves):
        """Take leaves out, all or none, and return the list of their entries."""
        for leaf in leaves:
            if leaf not in self:
                raise NoLeaf(leaf)
        found = [self._entries[leaf] for leaf in leaves]
        for leaf in leaves:
            # A leaf may be given twice.
            self._entries.pop(leaf, None)
        self._changes = self._changes + 1
        return found

    def edit(self, *edits):
        """Do edits one behind the other, all or none, and return the book."""
        judge_each(edits, self._room)
        change_by_edits(self._entries, edits, self._room)
        self._changes = self._changes + 1
        return self

    def use(self, right):
        """Let frames alone get this right, and return the one that they got."""
        judge_right(right)
        before = self._usual
        self._usual = right
        return before

    def counter(self):
        """A function that returns how many changes there were since the last time, or since it was made."""
        seen = self._changes

        def since():
            """The number of these changes."""
            nonlocal seen
            many = self._changes - seen
            seen = self._changes
            return many

        return since

    def walk(self, low=0, high=None):
        """Triples of leaf, frame and right, ascending, for the entries from a leaf to ahead of another one."""
        end = self._room if high is None else high
        # The book may be changed before the next one is asked for.
        rows = [(leaf, *self._entries[leaf]) for leaf in sorted(leaves_within(self._entries, low, end))]
        for row in rows:
            yield row

    def laid_runs(self):
        """Runs as long as can be, ascending: a first leaf, a number of leaves, a frame and a right."""
        first, many, frame, right = 0, 0, 0, None
        for leaf, number, told in self.walk():
            if (leaf, number, told) != (first + many, frame + many, right):
                if many > 0:
                    yield first, many, frame, right
                first, many, frame, right = leaf, 0, number, told
            many = many + 1
        if many > 0:
            yield first, many, frame, right

    def text(self, *, wide=False):
        """The text of the runs; a wide one has a line for each."""
        if wide:
            return "".join([f"{first:>7}{many:>8}{frame:>11} {right:<2}|\n"
                            for first, many, frame, right in self.laid_runs()])
        return " ".join([f"{first}+{many}>{frame}:{right}" for first, many, frame, right in self.laid_runs()])


def judge_right(right):
    """Raise BadBook unless this is a right."""
    if right not in RIGHTS:
        raise BadBook("this is no right")


def entry_of(thing, right):
    """The entry for a pair of a frame and a right, or for a frame alone, which gets a right."""
    if is_entry(thing):
        return thing
    if not is_between(thing, 0, MOST_FRAME):
        raise BadBook("this is no entry")
    return (thing, right)


def entries_of(told, leaves, right):
    """The entries of a dict of them for so many leaves, in which frames alone get a right."""
    if not isinstance(told, dict) or not all([is_between(leaf, 0, leaves - 1) for leaf in told]):
        raise BadBook("this is no dict of entries for the leaves")
    return {leaf: entry_of(told[leaf], right) for leaf in told}


def book_of_both(leaves, one, other, right):
    """The Book of the entries of both, the other's where both have one."""
    return Book(leaves, {**one, **other}, right=right)


def book_without(leaves, one, other, right):
    """The Book of entries without those for leaves of the other ones."""
    return Book(leaves, {leaf: one[leaf] for leaf in one if leaf not in other}, right=right)


def book_of_maps(leaves, maps, right):
    """The Book behind maps."""
    book = Book(leaves, right=right)
    return book.edit(*maps)


def is_run_of_map(thing, right, leaves):
    """Whether a value of any kind is a triple of a first leaf, a number and a frame, as of a map."""
    return isinstance(thing, tuple) and is_edit(("map", *thing, right), leaves)


def pieces_between(told):
    """The pieces of a text between blanks, each with its column."""
    found = []
    column = 1
    for piece in told.split(" "):
        if piece != "":
            found.append((piece, column))
        column = column + len(piece) + 1
    return found


def map_in(piece, column, leaves):
    """The map that a piece of a text tells."""
    first, _, rest = piece.partition("+")
    many, _, rest = rest.partition(">")
    frame, colon, right = rest.partition(":")
    if colon == "" or not all([is_written(number) for number in (first, many, frame)]):
        raise BadText(1, column)
    edit = ("map", int(first), int(many), int(frame), right)
    if not is_edit(edit, leaves):
        raise BadText(2, column)
    return edit


def is_written(piece):
    """Whether a piece of a text is a number of few figures without zeros in front."""
    if not 1 <= len(piece) <= MOST_FIGURES or not all(["0" <= sign <= "9" for sign in piece]):
        return False
    return piece == "0" or piece[0] != "0"
