"""Layouts, and the runs of their leaves for which entries can stand."""

from twinleaves.checks import is_between
from twinleaves.errors import BadLayout
from twinleaves.scripts import RIGHTS

MOST_FRAME = 1000000000


def is_layout(shape, thing):
    """Whether a value of any kind is a layout for a shape."""
    if not isinstance(thing, dict):
        return False
    last = shape.leaves() - 1
    return all([is_between(leaf, 0, last) and is_entry(pair) for leaf, pair in thing.items()])


def is_entry(thing):
    """Whether a value of any kind is a pair of a frame and a right."""
    if not isinstance(thing, tuple) or len(thing) != 2:
        return False
    return is_between(thing[0], 0, MOST_FRAME) and thing[1] in RIGHTS


def judge_layout(shape, layout):
    """Raise BadLayout unless this is a layout for a shape."""
    if not is_layout(shape, layout):
        raise BadLayout("this is no layout")


def runs_for_entries(shape, layout):
    """For each level of entries a dict of the first leaves of the runs that one can stand for."""
    rows = [{leaf: True for leaf in layout}]
    for level in range(1, shape.widest() + 1):
        parts = rows[level - 1]
        rows.append({first: True for first in parts if joins_parts(shape, layout, parts, first, level)})
    return rows


def joins_parts(shape, layout, parts, first, level):
    """Whether one entry can stand for the run of a level from a leaf on, as entries can for parts of it."""
    width, step = shape.width(level), shape.width(level - 1)
    frame, right = layout[first]
    if first % width != 0 or frame % width != 0:
        return False
    return all([leaf in parts and layout[leaf] == (frame + leaf - first, right)
                for leaf in range(first, first + width, step)])


def widest_runs(shape, layout):
    """For each leaf of a layout the widest run with it that an entry can stand for."""
    rows = runs_for_entries(shape, layout)
    found = {}
    for level, firsts in enumerate(rows):
        for first in firsts:
            # Wider runs come later, and take the place of those within them.
            for leaf in range(first, first + shape.width(level)):
                found[leaf] = (first, level)
    return found
