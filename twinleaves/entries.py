"""How few entries and books a layout needs."""

from twinleaves.checks import is_between, is_integer
from twinleaves.evidence import new_list
from twinleaves.layouts import judge_layout, runs_for_entries, widest_runs
from twinleaves.shapes import judge_shape


class Entries:
    """Runs for entries, and as many leaves, no two of which one entry can stand for."""

    def __init__(self, runs, leaves):
        self.runs = new_list(runs)
        self.leaves = new_list(leaves)

    def __eq__(self, other):
        return isinstance(other, Entries) and self.runs == other.runs and self.leaves == other.leaves

    def shows(self, shape, layout):
        """Whether entries can stand for the runs of a layout, and the leaves tell that there are no fewer."""
        judge_shape(shape)
        judge_layout(shape, layout)
        if len(self.leaves) != len(self.runs) or not are_entries(shape, layout, self.runs):
            return False
        if not all([is_integer(leaf) and leaf in layout for leaf in self.leaves]):
            return False
        # Runs lie within one another or apart: one entry for two leaves makes their widest runs the same.
        widest = widest_runs(shape, layout)
        return len({widest[leaf] for leaf in self.leaves}) == len(self.leaves)


def are_entries(shape, layout, runs):
    """Whether runs are ascending, entries can stand for them, and each leaf of a layout is in just one."""
    rows = runs_for_entries(shape, layout)
    covered = {}
    last = None
    for run in runs:
        if not is_entry_run(rows, run) or (last is not None and run <= last):
            return False
        last = run
        for leaf in range(run[0], run[0] + shape.width(run[1])):
            if leaf in covered:
                return False
            covered[leaf] = True
    return len(covered) == len(layout)


def is_entry_run(rows, run):
    """Whether this is a pair of the first leaf and the level of a run among those that are told by levels."""
    if not isinstance(run, tuple) or len(run) != 2 or not is_between(run[1], 0, len(rows) - 1):
        return False
    return is_integer(run[0]) and run[0] in rows[run[1]]


def entries(shape, layout):
    """An Entries for a layout."""
    judge_shape(shape)
    judge_layout(shape, layout)
    runs = sorted(set(list(widest_runs(shape, layout).values())))
    return Entries(runs, [first for first, _ in runs])


def books(shape, layout):
    """The ascending list of the books that a layout needs, pairs of a first leaf and a level."""
    judge_shape(shape)
    judge_layout(shape, layout)
    found = {(0, shape.levels()): True}
    for leaf, run in widest_runs(shape, layout).items():
        for level in range(run[1] + 1, shape.levels() + 1):
            found[(leaf - leaf % shape.width(level), level)] = True
    return sorted(found)
