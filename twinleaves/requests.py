"""Whether requests for frames are always met, by a rule for their places."""

from twinleaves.checks import is_ascending, is_between
from twinleaves.errors import BadMemory, BadNumber
from twinleaves.evidence import new_list

FIRST = "first"
LAST = "last"
TIGHT = "tight"

SIZES = (1, 2, 4)
MOST_FRAMES = 8


class Served:
    """Standings in which no request is refused, and out of which no step leads."""

    def __init__(self, standings):
        self.standings = new_list(standings)

    def __eq__(self, other):
        return isinstance(other, Served) and self.standings == other.standings

    def shows(self, rule, frames, sizes, most):
        """Whether these are standings, with the empty one, in which no request is refused, and all next ones."""
        judge_requests_told(rule, frames, sizes, most)
        told = {standing: True for standing in self.standings}
        if () not in told:
            return False
        for standing in self.standings:
            if not is_standing(standing, frames, sizes, most):
                return False
            after = [standing_after(rule, frames, standing, step) for step in steps_from(standing, sizes, most)]
            if not all([next_one in told for next_one in after]):
                return False
        return True


class Refused:
    """Steps from the empty standing on, the last one of which is refused."""

    def __init__(self, steps):
        self.steps = new_list(steps)

    def __eq__(self, other):
        return isinstance(other, Refused) and self.steps == other.steps

    def shows(self, rule, frames, sizes, most):
        """Whether these steps are met but for the last one, which is refused, and no fewer steps lead to that."""
        judge_requests_told(rule, frames, sizes, most)
        standing = ()
        for step in self.steps[:-1]:
            if standing is None or step not in steps_from(standing, sizes, most):
                return False
            standing = standing_after(rule, frames, standing, step)
        if standing is None or len(self.steps) == 0 or self.steps[-1] not in steps_from(standing, sizes, most):
            return False
        if standing_after(rule, frames, standing, self.steps[-1]) is not None:
            return False
        # These steps lead to a refused request, so there are fewest ones that do.
        _, least = reached(rule, frames, sizes, most)
        return len(self.steps) == len(least)


def judge_requests_told(rule, frames, sizes, most):
    """Raise BadMemory or BadNumber unless there are a rule, a memory, sizes, and a number for the sum."""
    if rule not in (FIRST, LAST, TIGHT) or not is_between(frames, 1, MOST_FRAMES):
        raise BadMemory("this is no rule, or no number of frames from 1 to 8")
    if not is_sizes(sizes):
        raise BadMemory("sizes are no ascending list or tuple of 1, 2 and 4")
    if not is_between(most, 1, MOST_FRAMES):
        raise BadNumber("the most is an integer from 1 to 8")


def is_sizes(thing):
    """Whether a value of any kind is an ascending list or tuple, not empty, of sizes."""
    return is_ascending(thing, SIZES[-1]) and len(thing) > 0 and all([size in SIZES for size in thing])


def is_standing(thing, frames, sizes, most):
    """Whether a tuple of pairs of integers is a standing."""
    reach = 0
    for place, size in thing:
        if size not in sizes or place % size != 0 or place < reach:
            return False
        reach = place + size
    return reach <= frames and sum_of(thing) <= most


def sum_of(standing):
    """The number of frames that are held."""
    return sum([size for _, size in standing])


def steps_from(standing, sizes, most):
    """All steps that can be made in a standing, met or refused."""
    left = most - sum_of(standing)
    return [("ask", size) for size in sizes if size <= left] + [("give", place) for place, _ in standing]


def standing_after(rule, frames, standing, step):
    """The standing behind a step, None if it is refused."""
    if step[0] == "give":
        return tuple([pair for pair in standing if pair[0] != step[1]])
    free = free_frames(frames, standing)
    places = [place for place in range(0, frames, step[1]) if is_free(free, place, step[1])]
    if len(places) == 0:
        return None
    return tuple(sorted([*standing, (chosen_place(rule, free, places, step[1]), step[1])]))


def free_frames(frames, standing):
    """For each frame whether it is free."""
    held = {place + far: True for place, size in standing for far in range(size)}
    return [frame not in held for frame in range(frames)]


def is_free(free, place, size):
    """Whether a run of frames lies within the memory, and all of it is free."""
    return place + size <= len(free) and all(free[place:place + size])


def chosen_place(rule, free, places, size):
    """The place that a rule gives among those that are free."""
    if rule == FIRST:
        return places[0]
    if rule == LAST:
        return places[-1]
    return min([(room_around(free, place, size), place) for place in places])[1]


def room_around(free, place, size):
    """The number of frames of the widest run around a free place that is free, with all between."""
    room = size
    while is_free(free, place - place % (2 * room), 2 * room):
        room = 2 * room
    return room


def reached(rule, frames, sizes, most):
    """The standings that are reached until a request is refused, each with the steps to it; the steps to that one."""
    ways = {(): []}
    left = [()]
    while len(left) > 0:
        # Those with fewer steps come first.
        standing = left.pop(0)
        for step in steps_from(standing, sizes, most):
            after = standing_after(rule, frames, standing, step)
            if after is None:
                return ways, [*ways[standing], step]
            if after not in ways:
                ways[after] = [*ways[standing], step]
                left.append(after)
    return ways, None


def judge_requests(rule, frames, sizes, most):
    """A Served, or a Refused, for requests of some sizes with a rule, in a memory of some frames."""
    judge_requests_told(rule, frames, sizes, most)
    ways, steps = reached(rule, frames, sizes, most)
    if steps is None:
        return Served(sorted(ways))
    return Refused(steps)
