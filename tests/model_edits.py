"""Edits of books, told leaf by leaf: a second telling of [14]."""

import itertools


def done(edit, book):
    """The book behind an edit."""
    kind, first, many = edit[:3]
    run = range(first, first + many)
    found = dict(book)
    if kind == 'map':
        found.update({leaf: (edit[3] + leaf - first, edit[4]) for leaf in run})
    elif kind == 'unmap':
        for leaf in run:
            found.pop(leaf, None)
    elif kind == 'guard':
        found.update({leaf: (found[leaf][0], edit[3]) for leaf in run if leaf in found})
    else:
        goals = {leaf: leaf - first + edit[3] for leaf in run}
        if kind == 'move':
            for leaf in run:
                found.pop(leaf, None)
        for leaf, goal in goals.items():
            found.pop(goal, None)
            if leaf in book:
                found[goal] = book[leaf]
    return found


def all_done(edits, book):
    """The book behind edits of any number."""
    for edit in edits:
        book = done(edit, book)
    return book


def stands(edits, leaves):
    """What stands behind edits at each leaf."""
    # A book whose frames tell where they come from, with a right of its own that no edit gives.
    found = all_done(edits, {leaf: (('old', leaf), None) for leaf in range(leaves)})
    whats = []
    for leaf in range(leaves):
        if leaf not in found:
            whats.append(('none',))
            continue
        frame, right = found[leaf]
        whats.append(('old', frame[1] - leaf, right) if isinstance(frame, tuple) else ('to', frame - leaf, right))
    return whats


def form_of(edits, leaves):
    """The normal form, by what stands at each leaf."""
    whats = stands(edits, leaves)
    return [(leaf, what) for leaf, what in enumerate(whats) if leaf == 0 or whats[leaf - 1] != what]


def all_books(leaves, frames=(0, 1), rights=('r', 'rw')):
    """All books with a few frames."""
    choices = [None] + [(frame, right) for frame in frames for right in rights]
    for row in itertools.product(choices, repeat=leaves):
        yield {leaf: pair for leaf, pair in enumerate(row) if pair is not None}


def drawn_edit(dice, leaves, kinds=('map', 'unmap', 'guard', 'move', 'share'), frames=4):
    """An edit that is drawn."""
    first = dice.randrange(leaves)
    many = dice.randint(1, leaves - first)
    kind = dice.choice(kinds)
    if kind == 'map':
        return (kind, first, many, dice.randrange(frames), dice.choice(['r', 'rw']))
    if kind == 'unmap':
        return (kind, first, many)
    if kind == 'guard':
        return (kind, first, many, dice.choice(['r', 'rw']))
    return (kind, first, many, dice.randint(0, leaves - many))


def drawn_row(dice, leaves, most=10, **more):
    """A row of edits that is drawn."""
    return [drawn_edit(dice, leaves, **more) for _ in range(dice.randint(0, most))]


def fewest_paintings(start, goal, colors, paint):
    """The least number of strokes from one row to another one, by trying all; paint tells what a stroke makes of a cell."""
    runs = [(low, high) for low in range(len(start)) for high in range(low + 1, len(start) + 1)]
    seen, now, many = {start}, [start], 0
    while goal not in seen:
        behind = []
        for row in now:
            for (low, high), color in itertools.product(runs, colors):
                one = row[:low] + tuple(paint(cell, color) for cell in row[low:high]) + row[high:]
                if one not in seen:
                    seen.add(one)
                    behind.append(one)
        now, many = behind, many + 1
    return many


# Values that are no edits of books with 8 leaves.
NO_EDITS = [None, 5, 'map', [], (), {}, ['unmap', 0, 1], ('unmap',), ('unmap', 0), ('unmap', 0, 1, 1), ('unmap', 0, 0),
            ('unmap', 0, -1), ('unmap', -1, 1), ('unmap', 8, 1), ('unmap', 0, 9), ('unmap', 7, 2), ('unmap', True, 1),
            ('unmap', 0, True), ('unmap', False, 1), ('unmap', 0.0, 1), ('unmap', '0', 1), ('unmap', None, 1), ('unmap', 0, [1]),
            ('map', 0, 1, 0), ('map', 0, 1, 0, 'w'), ('map', 0, 1, 0, None), ('map', 0, 1, 0, ['r']), ('map', 0, 1, 0, 'r', 0),
            ('map', 0, 1, -1, 'r'), ('map', 0, 1, 10 ** 9 + 1, 'r'), ('map', 0, 2, 10 ** 9, 'r'), ('map', 0, 1, True, 'r'),
            ('map', 0, 1, 1.0, 'r'), ('map', 0, 1, 'r', 0), ('map', 0, 9, 0, 'r'), ('map', 4, 5, 0, 'r'), ('map', 0, 0, 0, 'r'),
            ('guard', 0, 1), ('guard', 0, 1, None), ('guard', 0, 1, 'x'), ('guard', 0, 1, 'r', 'r'), ('guard', 0, 9, 'r'),
            ('guard', 0, 1, 0), ('move', 0, 1), ('move', 0, 1, 8), ('move', 0, 2, 7), ('move', 0, 1, -1), ('move', 0, 1, True),
            ('move', 7, 2, 0), ('move', 0, 1, 1, 1), ('move', 0, 1, None), ('move', 0, 1, 'r'), ('share', 0, 1), ('share', 0, 1, 8),
            ('share', 0, 8, 1), ('share', 0, 1, -1), ('share', 0, 1, 1, 1), ('share', 0, 9, 0), ('copy', 0, 1, 1), ('Map', 0, 1, 0, 'r'),
            (None, 0, 1), (['map'], 0, 1, 0, 'r'), (True, 0, 1), ('swap', 0, 1, 1), ('unmap', 0, 10 ** 30)]

# Values that are no books with 8 leaves.
NO_BOOKS = [None, 5, [], (), 'book', {8: (0, 'r')}, {-1: (0, 'r')}, {True: (0, 'r')}, {0.0: (0, 'r')}, {'0': (0, 'r')},
            {None: (0, 'r')}, {0: 5}, {0: None}, {0: [0, 'r']}, {0: (0,)}, {0: (0, 'r', 0)}, {0: (-1, 'r')}, {0: (10 ** 9 + 1, 'r')},
            {0: (True, 'r')}, {0: (0, 'w')}, {0: (0, None)}, {0: (0, ['r'])}, {0: (1.0, 'r')}, {0: ('r', 0)}, {0: (0, 'r'), 8: (0, 'r')}]

# Values that are no numbers of leaves of a book.
NO_LEAVES = [0, -1, 1000001, True, None, '8', 8.0, [8], 10 ** 30]
