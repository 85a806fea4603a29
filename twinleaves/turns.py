"""Turnings, whose body is done any number of times, and whether two of them are alike."""

from twinleaves.checks import is_from, judge_given
from twinleaves.errors import BadScript
from twinleaves.evidence import new_dict
from twinleaves.laps import first_unlike, gap_for, turns_enough
from twinleaves.scripts import Script, repeated


class Turning:
    """A layout, steps ahead, a body, and steps behind."""

    def __init__(self, leaves, cells, ahead, body, behind):
        self.ahead = Script(leaves, cells, ahead).steps
        self.body = Script(leaves, cells, body).steps
        self.behind = Script(leaves, cells, behind).steps
        self.leaves = leaves
        self.cells = cells

    def __eq__(self, other):
        return (isinstance(other, Turning) and self.leaves == other.leaves and self.cells == other.cells
                and self.ahead == other.ahead and self.body == other.body and self.behind == other.behind)

    def script(self, many):
        """The script with so many turns."""
        return Script(self.leaves, self.cells, self.ahead + repeated(self.body, many) + self.behind)


class UnlikeTurns:
    """The least number of turns for which two turnings are not alike, values, and the first show that differs."""

    def __init__(self, many, given, place):
        self.many = many
        self.given = new_dict(given)
        self.place = place

    def __eq__(self, other):
        return (isinstance(other, UnlikeTurns) and self.many == other.many and self.given == other.given
                and self.place == other.place)

    def shows(self, one, other):
        """Whether these are such a number, values and place for two turnings."""
        judge_turnings(one, other)
        judge_given(self.given)
        if not is_from(self.many, 0) or first_unlike(one, other, self.many - 1) is not None:
            return False
        place = gap_for(one, other, self.many, self.given)
        return place is not None and place == self.place


def judge_turnings(one, other):
    """Raise BadScript unless these are two turnings of one layout."""
    if not isinstance(one, Turning) or not isinstance(other, Turning):
        raise BadScript(None)
    if one.leaves != other.leaves or one.cells != other.cells:
        raise BadScript(None)


def unlike_turns(one, other):
    """An UnlikeTurns for two turnings, None if they are alike."""
    judge_turnings(one, other)
    if one == other:
        return None
    found = first_unlike(one, other, turns_enough(one, other))
    if found is None:
        return None
    many, place, given = found
    return UnlikeTurns(many, given, place)
