"""How few maps and unmaps make a change."""

from twinleaves.edits import NONE, SAME, form_behind, is_edit, judge_row, stretches
from twinleaves.errors import BadChange, TooLarge
from twinleaves.evidence import new_dict, new_list
from twinleaves.painting import is_bounded, least_strokes, strokes_between

MOST_PARTS = 60


class Strokes:
    """Maps and unmaps that make a change, and numbers that rule out fewer."""

    def __init__(self, edits, numbers):
        self.edits = new_list(edits)
        self.numbers = [new_dict(table) for table in numbers]

    def __eq__(self, other):
        return isinstance(other, Strokes) and self.edits == other.edits and self.numbers == other.numbers

    def shows(self, edits, leaves):
        """Whether these edits make the change of a row of edits, and the numbers rule out fewer."""
        changed = changed_stretches(edits, leaves)
        if len(self.numbers) != len(changed):
            return False
        if not all([edit[0] in ("map", "unmap") and is_edit(edit, leaves) for edit in self.edits]):
            return False
        if form_behind(self.edits, leaves) != form_behind(edits, leaves):
            return False
        if not all([is_bounded(table, marks_of(parts)) for table, parts in zip(self.numbers, changed)]):
            return False
        return sum([table[(0, len(parts))] for table, parts in zip(self.numbers, changed)]) == len(self.edits)


def changed_stretches(edits, leaves):
    """The stretches of a change, lists of parts: triples of a first leaf, the leaf behind, and what stands there."""
    judge_row(edits, leaves)
    parts = stretches(form_behind(edits, leaves), leaves)
    if not all([what[0] != "old" or what == SAME for _, _, what in parts]):
        raise BadChange("the edits make no change")
    found = [[]]
    for part in parts:
        if part[2] == SAME:
            found.append([])
        else:
            found[-1].append(part)
    found = [row for row in found if len(row) > 0]
    if not all([len(row) <= MOST_PARTS for row in found]):
        raise TooLarge("a stretch has more than 60 parts")
    return found


def marks_of(parts):
    """What stands at the parts of a stretch."""
    return [what for _, _, what in parts]


def fewest(edits, leaves):
    """A Strokes of the change that a row of edits makes."""
    found, numbers = [], []
    for parts in changed_stretches(edits, leaves):
        table, goes = least_strokes(marks_of(parts))
        numbers.append(table)
        found.extend([edit_for(parts, low, high) for low, high in strokes_between(goes, 0, len(parts))])
    return Strokes(found, numbers)


def edit_for(parts, low, high):
    """The map or unmap of a stroke from one part to another one."""
    first, end, what = parts[low][0], parts[high][1], parts[low][2]
    if what == NONE:
        return ("unmap", first, end - first)
    return ("map", first, end - first, first + what[1], what[2])
