"""Which steps of a script are needed, and which may be exchanged."""

from twinleaves.alikes import Unlike, first_gap, gap_between
from twinleaves.checks import is_between, is_given
from twinleaves.doing import do_step, do_steps, is_show, shown_by
from twinleaves.errors import BadPlace
from twinleaves.evidence import new_list
from twinleaves.runs import numbers_shown, seen_forms
from twinleaves.scripts import judge_script
from twinleaves.standing import Standing
from twinleaves.sums import Probe, Sums


class Needed:
    """The places of the steps that stay, and for each one a reason, an Unlike."""

    def __init__(self, places, reasons):
        self.places = new_list(places)
        self.reasons = [new_reason(reason) for reason in reasons]

    def __eq__(self, other):
        return isinstance(other, Needed) and self.places == other.places and self.reasons == other.reasons

    def shows(self, script):
        """Whether these are the places and reasons for a script."""
        judge_script(script)
        if self.places != places_needed(script) or len(self.reasons) != len(self.places):
            return False
        return all([is_reason(script, self.places, at, reason) for at, reason in enumerate(self.reasons)])


def new_reason(reason):
    """A new Unlike like a given one."""
    return Unlike(reason.given, reason.place) if isinstance(reason, Unlike) else reason


def without(places, at):
    """Places but for one."""
    return places[:at] + places[at + 1:]


def steps_at(script, places):
    """The steps at places."""
    return [script.steps[place] for place in places]


def is_reason(script, places, at, reason):
    """Whether a value tells why one of the places must stay."""
    if not isinstance(reason, Unlike) or not is_given(reason.given):
        return False
    place = gap_without(script, places, at, reason.given)
    return place is not None and place == reason.place


def needed(script):
    """A Needed for a script."""
    judge_script(script)
    places = places_needed(script)
    forms = seen_forms(script, steps_at(script, places))
    return Needed(places, [reason_for(script, places, at, forms) for at in range(len(places))])


def reason_for(script, places, at, forms):
    """An Unlike that tells why one of the places must stay, where forms are what all of them show."""
    # Numbers are worked out sooner than forms, which may be long.
    for given in likely_values(script.steps[places[at]]):
        place = gap_without(script, places, at, given)
        if place is not None:
            return Unlike(given, place)
    return gap_between(forms, seen_forms(script, steps_at(script, without(places, at))))


def likely_values(step):
    """Values for which a script without a step may well show something else."""
    if step[0] != "put":
        return [{}]
    return [{}] + [{("input", term[1]): 1} for term in step[4] if term[0] == "input"]


def gap_without(script, places, at, given):
    """The first show that is another one without the step at one of the places, None if there is none."""
    ours = numbers_shown(script, steps_at(script, places), given)
    return first_gap(ours, numbers_shown(script, steps_at(script, without(places, at)), given))


def places_needed(script):
    """The places of the steps that stay."""
    trials = Trials(script)
    places = list(range(len(script)))
    while True:
        fewer = trials.turn(places)
        if len(fewer) == len(places):
            return places
        places = fewer


class Trials:
    """Trials whether fewer steps are alike to a whole script.

    Forms are worked out only where remainders agree: most steps that are needed are told by those alone.
    """

    def __init__(self, script):
        self.whole = script
        self.probe = Probe()
        self.forms = seen_forms(script, script.steps)
        self.numbers = shown_by(script.steps, do_steps(self.start(), script.steps))

    def start(self):
        """The standing in front of all steps."""
        return Standing(self.whole.leaves, self.whole.cells, self.probe)

    def turn(self, places):
        """The places that stay of some, if each one is tried, from the last one to the first."""
        fronts = self.fronts_of(places)
        stay = []
        for at in reversed(range(len(places))):
            if not self.can_go(fronts[at], places[:at], places[at], stay):
                stay = [places[at]] + stay
        return stay

    def fronts_of(self, places):
        """For each place the standing in front of it, and the number of shows ahead."""
        standing = self.start()
        fronts = []
        shows = 0
        for step in steps_at(self.whole, places):
            fronts.append((standing.twin(), shows))
            do_step(standing, step)
            if is_show(step):
                shows += 1
        return fronts

    def can_go(self, front, ahead, place, behind):
        """Whether the steps ahead and behind a place do without it."""
        # Without a show there are not as many shows.
        if is_show(self.whole.steps[place]) or not self.agrees(front, behind):
            return False
        return seen_forms(self.whole, steps_at(self.whole, ahead + behind)) == self.forms

    def agrees(self, front, places):
        """Whether steps behind a front show the remainders that the whole script shows."""
        standing, shows = front
        for step in steps_at(self.whole, places):
            told = do_step(standing, step)
            if is_show(step):
                if told != self.numbers[shows]:
                    return False
                shows += 1
        return True


def may_exchange(script, place):
    """Whether the step at a place and the next one may be exchanged."""
    judge_script(script)
    if not is_between(place, 0, len(script) - 2):
        raise BadPlace("there is no step with one behind it")
    standing = Standing(script.leaves, script.cells, Sums())
    do_steps(standing, script.steps[:place])
    other = standing.twin()
    pair = [script.steps[place], script.steps[place + 1]]
    swapped = [pair[1], pair[0]]
    if shown_by(pair, do_steps(standing, pair)) != shown_by(swapped, do_steps(other, swapped)):
        return False
    return standing.spaces == other.spaces and standing.files == other.files
