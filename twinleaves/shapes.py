"""Shapes of spaces: how runs of leaves lie within one another."""

from twinleaves.checks import is_between
from twinleaves.errors import BadShape
from twinleaves.powers import power

MOST_FAN = 16
MOST_LEVELS = 12
MOST_LEAVES = 4096


class Shape:
    """A fan, a number of levels, and the level of the widest entries."""

    def __init__(self, fan, levels, widest):
        if not is_between(fan, 2, MOST_FAN) or not is_between(levels, 1, MOST_LEVELS):
            raise BadShape("a fan is from 2 to 16, and levels are from 1 to 12")
        if not is_between(widest, 0, levels - 1) or power(fan, levels) > MOST_LEAVES:
            raise BadShape("the widest entries are no level below all, or there are too many leaves")
        self.numbers = (fan, levels, widest)

    def __eq__(self, other):
        return isinstance(other, Shape) and self.numbers == other.numbers

    def fan(self):
        """How many runs of one level less a run is made of."""
        return self.numbers[0]

    def levels(self):
        """The level of the whole space."""
        return self.numbers[1]

    def widest(self):
        """The level of the widest entries."""
        return self.numbers[2]

    def leaves(self):
        """The number of leaves of the whole space."""
        return self.width(self.levels())

    def width(self, level):
        """The number of leaves of a run of a level."""
        return power(self.fan(), level)


def judge_shape(shape):
    """Raise BadShape unless this is a Shape."""
    if not isinstance(shape, Shape):
        raise BadShape("this is no shape")
