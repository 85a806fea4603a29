"""Whether two scripts show the same behind them, with any steps there."""

from twinleaves.checks import judge_given
from twinleaves.doing import do_steps, shown_by
from twinleaves.evidence import new_dict, new_list
from twinleaves.scripts import MOST_LEAVES, judge_scripts
from twinleaves.standing import OWN, Standing
from twinleaves.sums import Sums, Values, telling_values
from twinleaves.words import fresh_words


class Parting:
    """Steps that, behind two scripts, do not show the same for given values."""

    def __init__(self, steps, given):
        self.steps = new_list(steps)
        self.given = new_dict(given)

    def __eq__(self, other):
        return isinstance(other, Parting) and self.steps == other.steps and self.given == other.given

    def shows(self, one, other):
        """Whether the steps do so behind these scripts."""
        judge_scripts(one, other)
        judge_given(self.given)
        return self.shown_behind(one) != self.shown_behind(other)

    def shown_behind(self, script):
        """What the steps show behind a script."""
        standing = standing_behind(script, Values(self.given))
        return shown_by(self.steps, do_steps(standing, self.steps))


def standing_behind(script, sums):
    """The standing behind a script."""
    standing = Standing(script.leaves, script.cells, sums)
    do_steps(standing, script.steps)
    return standing


def parting(one, other):
    """A Parting for two scripts, None if they go on alike."""
    judge_scripts(one, other)
    sums = Sums()
    return parted(standing_behind(one, sums), standing_behind(other, sums))


def parted(one, other):
    """A Parting for two standings with the same sums, None if they are the same."""
    # What parts leaves of tasks rests on files that are the same.
    return parted_files(one, other) or parted_tasks(one, other)


def parted_files(one, other):
    """A Parting for files that are not the same, None if all are."""
    for word in sorted({**one.files, **other.files}):
        ours, theirs = one.files.get(word), other.files.get(word)
        if ours == theirs:
            continue
        name = fresh_words({**one.spaces, **other.spaces}, 1)[0]
        if ours is None or theirs is None:
            steps = looked_at(name, ("common", word, 0), 0)
            return Parting(steps[:-1] + [("cut", word, 1), steps[-1]], {})
        if len(ours) != len(theirs):
            return Parting(looked_at(name, ("apart", word, min(len(ours), len(theirs))), 0), {})
        leaf = [at for at, contents in enumerate(ours) if contents != theirs[at]][0]
        cell, given = parted_contents(one.sums, ours[leaf], theirs[leaf])
        return Parting(looked_at(name, ("apart", word, leaf), cell), given)
    return None


def looked_at(name, way, cell):
    """Steps that show a cell of a file's leaf, by a task that is not there yet."""
    return [("task", name), ("map", name, 0, 1, way, "r"), ("show", name, 0, cell)]


def parted_contents(sums, ours, theirs):
    """The first cell in which contents differ, and values for which it has unlike numbers."""
    cell = [at for at, number in enumerate(ours) if number != theirs[at]][0]
    return cell, telling_values(sums.forms[ours[cell]], sums.forms[theirs[cell]])


def parted_tasks(one, other):
    """A Parting for tasks that are not the same, where files are; None if all are."""
    for name in sorted({**one.spaces, **other.spaces}):
        ours, theirs = one.spaces.get(name), other.spaces.get(name)
        if ours == theirs:
            continue
        if ours is None or theirs is None:
            steps = [("unmap", name, 0, 1), ("map", name, 0, 1, ("zero",), "r"), ("show", name, 0, 0)]
            return Parting(steps, {})
        leaf = [at for at in range(one.leaves) if ours.get(at) != theirs.get(at)][0]
        return parted_leaves(one.sums, name, leaf, ours.get(leaf), theirs.get(leaf))
    return None


def parted_leaves(sums, name, leaf, ours, theirs):
    """A Parting for two unlike triples of a task's leaf, None for one that is not mapped."""
    if ours is None or theirs is None:
        return Parting(made_whole(ours or theirs) + [("show", name, leaf, 0)], {})
    if ours[0] == theirs[0] == OWN and ours[2] != theirs[2]:
        cell, given = parted_contents(sums, ours[2], theirs[2])
        return Parting([("show", name, leaf, cell)], given)
    if ours[2] == theirs[2] and ours[1] != theirs[1]:
        return Parting(made_whole(ours) + [more(name, leaf), ("show", name, leaf, 0)], {})
    if OWN in (ours[0], theirs[0]):
        word, _ = theirs[2] if ours[0] == OWN else ours[2]
        return Parting([("cut", word, 0), ("show", name, leaf, 0)], {})
    if ours[2] != theirs[2]:
        return Parting(torn_by(ours[2], theirs[2]) + [("show", name, leaf, 0)], {})
    return Parting(made_whole(ours) + put_through(name, leaf, ours[2]), {})


def made_whole(record):
    """Steps behind which a mapped leaf is not torn."""
    return [] if record[0] == OWN else [("cut", record[2][0], MOST_LEAVES)]


def more(name, leaf):
    """A put behind which the first cell of a leaf is 1 more."""
    return ("put", name, leaf, 0, (("cell", name, leaf, 0, 1), ("number", 1)))


def torn_by(ours, theirs):
    """Steps behind which just one of two unlike leaves of files is there."""
    if ours[0] == theirs[0]:
        return [("cut", ours[0], 1 + min(ours[1], theirs[1]))]
    return [("cut", ours[0], 0), ("cut", theirs[0], MOST_LEAVES)]


def put_through(name, leaf, held):
    """Steps that put into a leaf, and show whether its file changes by that."""
    word, off = held
    map_again = ("map", name, leaf, 1, ("apart", word, off), "r")
    put = [("guard", name, leaf, 1, "rw"), more(name, leaf)]
    return put + [("unmap", name, leaf, 1), map_again, ("show", name, leaf, 0)]
