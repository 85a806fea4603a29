"""Free frames for wanted leaves, so that as few entries as can be are enough."""

from twinleaves.checks import is_ascending, is_between
from twinleaves.errors import BadLayout
from twinleaves.evidence import new_dict, new_list
from twinleaves.layouts import MOST_FRAME, widest_runs
from twinleaves.scripts import RIGHTS
from twinleaves.shapes import judge_shape


class Placing:
    """A layout of the wanted leaves, and how many runs of each level meet free frames."""

    def __init__(self, layout, numbers):
        self.layout = new_dict(layout)
        self.numbers = new_list(numbers)

    def __eq__(self, other):
        return isinstance(other, Placing) and self.layout == other.layout and self.numbers == other.numbers

    def shows(self, shape, wanted, free):
        """Whether this is a layout of the wanted leaves in free frames, and the numbers rule fewer entries out."""
        judge_places(shape, wanted, free)
        if self.numbers != numbers_of(wanted_runs(shape, wanted), full_runs(shape, free)):
            return False
        if not is_placed(self.layout, wanted, free):
            return False
        runs = list(widest_runs(shape, self.layout).values())
        return len(set(runs)) == len(wanted) - sum(self.numbers) * (shape.fan() - 1)


def is_placed(layout, wanted, free):
    """Whether a layout has just the wanted leaves with their rights, in free frames, all different."""
    if {leaf: right for leaf, (_, right) in layout.items()} != wanted:
        return False
    open_frames = {frame: True for frame in free}
    frames = [frame for frame, _ in layout.values()]
    return len(set(frames)) == len(frames) and all([frame in open_frames for frame in frames])


def judge_places(shape, wanted, free):
    """Raise BadShape, or BadLayout unless leaves are wanted and frames are free."""
    judge_shape(shape)
    last = shape.leaves() - 1
    if not isinstance(wanted, dict):
        raise BadLayout("no dict of wanted leaves")
    if not all([is_between(leaf, 0, last) and right in RIGHTS for leaf, right in wanted.items()]):
        raise BadLayout("what is wanted is no leaf with a right")
    if not is_ascending(free, MOST_FRAME):
        raise BadLayout("the free frames are no ascending list or tuple of frames")


def full_runs(shape, numbers):
    """For each level of entries the first ones of the runs that lie within ascending numbers."""
    rows = [list(numbers)]
    for level in range(1, shape.widest() + 1):
        width, step = shape.width(level), shape.width(level - 1)
        parts = rows[level - 1]
        # Parts are ascending multiples of their width: if the last one of a run is so near, all are there.
        rows.append([first for first, last in zip(parts, parts[shape.fan() - 1:])
                     if first % width == 0 and last == first + width - step])
    return rows


def wanted_runs(shape, wanted):
    """For each level of entries the first leaves of the runs that are wanted with one right."""
    both = [full_runs(shape, sorted([leaf for leaf in wanted if wanted[leaf] == right])) for right in RIGHTS]
    return [[first for rows in both for first in rows[level]] for level in range(shape.widest() + 1)]


def numbers_of(leaves, frames):
    """For each level from 1 on the lesser one of the numbers of runs of leaves and of frames."""
    return [min(len(one), len(other)) for one, other in list(zip(leaves, frames))[1:]]


def placing(shape, wanted, free):
    """A Placing of the wanted leaves in free frames, None if there are too few of these."""
    judge_places(shape, wanted, free)
    if len(free) < len(wanted):
        return None
    leaves, frames = wanted_runs(shape, wanted), full_runs(shape, free)
    goals = goals_for(shape, leaves, frames)
    layout = {leaf: (goals[leaf], wanted[leaf]) for leaf in sorted(wanted)}
    return Placing(layout, numbers_of(leaves, frames))


def goals_for(shape, leaves, frames):
    """A dict from leaves to frames, the widest runs that can be placed ahead of those within others."""
    goals, used = {}, {}
    for level in range(shape.widest(), -1, -1):
        # A run of which the first one is placed lies within a wider one that is.
        left = [first for first in leaves[level] if first not in goals]
        free = [first for first in frames[level] if first not in used]
        for leaf, frame in zip(left, free):
            for far in range(shape.width(level)):
                goals[leaf + far] = frame + far
                used[frame + far] = True
    return goals
