"""Whether two scripts always show the same."""

from twinleaves.checks import judge_given
from twinleaves.evidence import new_dict
from twinleaves.runs import numbers_shown, seen_forms
from twinleaves.scripts import judge_scripts
from twinleaves.sums import telling_values


class Unlike:
    """Values of unknowns, and the first show at which two scripts differ for these."""

    def __init__(self, given, place):
        self.given = new_dict(given)
        self.place = place

    def __eq__(self, other):
        return isinstance(other, Unlike) and self.given == other.given and self.place == other.place

    def shows(self, one, other):
        """Whether the place is the first one at which these scripts differ for the values."""
        judge_scripts(one, other)
        judge_given(self.given)
        place = first_gap(numbers_shown(one, one.steps, self.given), numbers_shown(other, other.steps, self.given))
        return place is not None and place == self.place


def first_gap(one, other):
    """The first place at which two lists differ, None if there is none."""
    for place, thing in enumerate(one):
        if place == len(other) or thing != other[place]:
            return place
    return len(one) if len(one) < len(other) else None


def unlike(one, other):
    """An Unlike for two scripts, None if they are alike."""
    judge_scripts(one, other)
    return gap_between(seen_forms(one, one.steps), seen_forms(other, other.steps))


def gap_between(one, other):
    """An Unlike for two lists of shown forms, None if they are equal."""
    place = first_gap(one, other)
    if place is None:
        return None
    if place >= len(one) or place >= len(other) or one[place] is None or other[place] is None:
        return Unlike({}, place)
    return Unlike(telling_values(one[place], other[place]), place)
