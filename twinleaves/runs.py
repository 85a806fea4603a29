"""What scripts show and which steps are refused."""

from twinleaves.checks import judge_given
from twinleaves.doing import do_steps, is_refused, is_show, shown_by
from twinleaves.scripts import judge_script
from twinleaves.standing import Standing
from twinleaves.sums import Sums, Values


class Outcome:
    """The shown forms, None where a show is refused, and the places of refused steps."""

    def __init__(self, seen, refused):
        self.seen = list(seen)
        self.refused = list(refused)

    def __eq__(self, other):
        return isinstance(other, Outcome) and self.seen == other.seen and self.refused == other.refused


def run(script):
    """What a script shows, and which of its steps are refused."""
    judge_script(script)
    sums = Sums()
    told = do_steps(Standing(script.leaves, script.cells, sums), script.steps)
    return Outcome(forms_shown(script.steps, told, sums), refused_places(told))


def forms_shown(steps, told, sums):
    """The forms of the shows of steps that told numbers of forms."""
    return [None if number is None else sums.forms[number] for number in shown_by(steps, told)]


def told_as_form(step, told, sums):
    """What a step told, with a form in the place of its number."""
    return sums.forms[told] if is_show(step) and told is not None else told


def refused_places(told):
    """The places of the steps that were refused."""
    return [place for place, word in enumerate(told) if is_refused(word)]


def shown(script, values):
    """The numbers that a script shows for a dict of values, None where a show is refused."""
    judge_script(script)
    judge_given(values)
    return numbers_shown(script, script.steps, values)


def numbers_shown(script, steps, given):
    """What steps of a script's layout show for a dict of values."""
    return shown_by(steps, do_steps(Standing(script.leaves, script.cells, Values(given)), steps))


def seen_forms(script, steps):
    """The forms that steps of a script's layout show."""
    sums = Sums()
    return forms_shown(steps, do_steps(Standing(script.leaves, script.cells, sums), steps), sums)


def inputs_of(script):
    """For each show the list of the unknowns of its form, None where it is refused."""
    judge_script(script)
    forms = seen_forms(script, script.steps)
    return [None if form is None else [unknown for unknown, _ in form[1]] for form in forms]
