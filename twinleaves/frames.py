"""How many frames hold the contents of own leaves."""

from twinleaves.checks import is_integer, is_word, judge_given
from twinleaves.evidence import new_dict, new_list
from twinleaves.goings import standing_behind
from twinleaves.scripts import judge_script
from twinleaves.spreading import values_apart
from twinleaves.standing import OWN
from twinleaves.sums import Sums, Values
from twinleaves.wanted import Story, wanted_leaves


class Frames:
    """A number of frames, a leaf for each one, and values for which the contents of these leaves are unlike."""

    def __init__(self, number, leaves, given):
        self.number = number
        self.leaves = new_list(leaves)
        self.given = new_dict(given)

    def __eq__(self, other):
        return (isinstance(other, Frames) and self.number == other.number and self.leaves == other.leaves
                and self.given == other.given)

    def shows(self, script):
        """Whether so many frames hold the contents behind a script, and the values tell that fewer do not."""
        judge_script(script)
        judge_given(self.given)
        if self.number != len(unlike_leaves(standing_behind(script, Sums()))) or len(self.leaves) != self.number:
            return False
        return are_apart(standing_behind(script, Values(self.given)), self.leaves)


def are_apart(standing, leaves):
    """Whether all leaves are own, and their contents are unlike one another, and no zeros."""
    found = {}
    for pair in leaves:
        if not isinstance(pair, tuple) or len(pair) != 2 or not is_word(pair[0]) or not is_integer(pair[1]):
            return False
        record = standing.record(pair[0], pair[1])
        if record is None or record[0] != OWN:
            return False
        found[record[2]] = True
    return len(found) == len(leaves) and standing.zeros() not in found


def unlike_leaves(standing):
    """A dict from the contents of own leaves, but for zeros, to the first leaf that has them, a pair."""
    found = {}
    for name in sorted(standing.spaces):
        space = standing.spaces[name]
        for leaf in sorted(space):
            way, _, held = space[leaf]
            if way == OWN and held != standing.zeros():
                found.setdefault(held, (name, leaf))
    return found


def least_frames(script):
    """A Frames for a script."""
    judge_script(script)
    sums = Sums()
    standing = standing_behind(script, sums)
    leaves = unlike_leaves(standing)
    # With the zeros among them, none of the others are all 0.
    rows = [[sums.forms[number] for number in contents] for contents in [standing.zeros(), *leaves]]
    return Frames(len(leaves), list(leaves.values()), values_apart(rows))


def needed_frames(script):
    """For each step the number of different contents, but for zeros, of the tasks' leaves wanted behind it."""
    judge_script(script)
    story = Story(script, Sums())
    rows = list(zip(story.standings, wanted_leaves(story)))
    return [needed_number(standing, wanted) for standing, wanted in rows[1:]]


def needed_number(standing, wanted):
    """The number of different contents, but for zeros, of the wanted leaves of tasks."""
    found = {}
    for leaf in wanted:
        if leaf[0] == "task":
            found[standing.contents(leaf)] = True
    found.pop(standing.zeros(), None)
    return len(found)
