"""Whether shows of a script tell an unknown."""

from math import gcd, lcm

from twinleaves.checks import is_between, judge_given, judge_unknown
from twinleaves.errors import BadPlace
from twinleaves.evidence import new_dict, new_list
from twinleaves.runs import numbers_shown, seen_forms
from twinleaves.scripts import judge_script
from twinleaves.solving import Rows


class Tells:
    """A fraction for each place, by which the forms shown there are together the unknown."""

    def __init__(self, factors):
        self.factors = new_list(factors)

    def __eq__(self, other):
        return isinstance(other, Tells) and self.factors == other.factors

    def shows(self, script, unknown, places):
        """Whether the fractions are such for an unknown and places of a script."""
        forms = judged_forms(script, unknown, places)
        if len(self.factors) != len(forms):
            return False
        if not all([is_fraction(fraction) for fraction in self.factors]):
            return False
        return are_together(forms, self.factors, unknown)


def are_together(forms, fractions, unknown):
    """Whether forms, None for a refused show, times fractions are together an unknown, but for integers."""
    common = 1
    for fraction in fractions:
        common = lcm(common, fraction[1])
    numbers = {unknown: -common}
    for form, fraction in zip(forms, fractions):
        if form is not None:
            for key, factor in form[1]:
                numbers[key] = numbers.get(key, 0) + factor * fraction[0] * (common // fraction[1])
    return all([number == 0 for number in numbers.values()])


def is_fraction(pair):
    """Whether a pair of integers is a fraction."""
    return isinstance(pair, tuple) and len(pair) == 2 and pair[1] >= 1


class Hides:
    """Values for which all these shows are the same, and the unknown is not."""

    def __init__(self, one, other):
        self.one = new_dict(one)
        self.other = new_dict(other)

    def __eq__(self, other):
        return isinstance(other, Hides) and self.one == other.one and self.other == other.other

    def shows(self, script, unknown, places):
        """Whether the values are such for an unknown and places of a script."""
        judge_asked(script, unknown, places)
        judge_given(self.one)
        judge_given(self.other)
        ours = numbers_shown(script, script.steps, self.one)
        theirs = numbers_shown(script, script.steps, self.other)
        if self.one.get(unknown, 0) == self.other.get(unknown, 0):
            return False
        return all([ours[place] == theirs[place] for place in places])


def judge_asked(script, unknown, places):
    """Raise an error unless these are a script, an unknown, and different places of its shows."""
    judge_script(script)
    judge_unknown(unknown)
    many = len([step for step in script if step[0] == "show"])
    if not isinstance(places, (list, tuple)) or not all([is_between(place, 0, many - 1) for place in places]):
        raise BadPlace("these are no places of shows")
    if len(set(places)) != len(places):
        raise BadPlace("a place stands twice")


def judged_forms(script, unknown, places):
    """The forms shown at places, None where a show is refused, if there is no error."""
    judge_asked(script, unknown, places)
    forms = seen_forms(script, script.steps)
    return [forms[place] for place in places]


def tells(script, unknown, places):
    """A Tells or a Hides for an unknown and places of shows of a script."""
    forms = judged_forms(script, unknown, places)
    rows = Rows(unknown)
    for at, form in enumerate(forms):
        row = None if form is None else rows.take(at, form)
        if row is not None:
            return Tells([fraction_of(row.get(("show", place), 0), row[unknown]) for place in range(len(forms))])
    return Hides(rows.hidden(), {})


def fraction_of(number, whole):
    """A number divided by another one, as a pair of integers."""
    common = gcd(number, whole)
    if whole < 0:
        common = -common
    return (number // common, whole // common)
