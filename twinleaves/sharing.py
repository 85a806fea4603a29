"""Books that several layouts hold in common."""

from twinleaves.errors import BadLayout
from twinleaves.evidence import new_list
from twinleaves.layouts import judge_layout, runs_for_entries
from twinleaves.shapes import judge_shape


class Shared:
    """Books, pairs of a level and a tuple of entries, and for each layout the number of its root."""

    def __init__(self, books, roots):
        self.books = new_list(books)
        self.roots = new_list(roots)

    def __eq__(self, other):
        return isinstance(other, Shared) and self.books == other.books and self.roots == other.roots


def shared(shape, layouts):
    """The fewest books that tell some layouts."""
    judge_shape(shape)
    if not isinstance(layouts, (list, tuple)):
        raise BadLayout("this is no list or tuple of layouts")
    for layout in layouts:
        judge_layout(shape, layout)
    numbers = {}
    roots = [root_for(shape, layout, numbers) for layout in layouts]
    return Shared(list(numbers), roots)


def root_for(shape, layout, numbers):
    """The number of the root of a layout, with books added to the numbers of all different ones."""
    rows = runs_for_entries(shape, layout)
    parts = {leaf: layout[leaf] for leaf in layout}
    for level in range(1, shape.levels()):
        width = shape.width(level)
        firsts = sorted({leaf - leaf % width for leaf in parts})
        wholes = rows[level] if level <= shape.widest() else {}
        parts = {first: layout[first] if first in wholes else number_for_book(shape, parts, first, level, numbers)
                 for first in firsts}
    return number_for_book(shape, parts, 0, shape.levels(), numbers)


def number_for_book(shape, parts, first, level, numbers):
    """The number of the book of a run, made of parts of one level less; a new one, if there is none like it."""
    step = shape.width(level - 1)
    book = (level, tuple([parts.get(first + at * step) for at in range(shape.fan())]))
    return numbers.setdefault(book, len(numbers))


def unshared(shape, told):
    """The layouts that a Shared tells."""
    judge_shape(shape)
    return [layout_of(shape, told.books, root) for root in told.roots]


def layout_of(shape, books, root):
    """The layout that a root tells."""
    layout = {}
    lay_out(layout, shape, books, root, 0)
    return layout


def lay_out(layout, shape, books, number, first):
    """Add to a layout what a book tells of the run from a leaf on."""
    level, row = books[number]
    step = shape.width(level - 1)
    for at, part in enumerate(row):
        start = first + at * step
        if isinstance(part, tuple):
            for far in range(step):
                layout[start + far] = (part[0] + far, part[1])
        elif part is not None:
            lay_out(layout, shape, books, part, start)
