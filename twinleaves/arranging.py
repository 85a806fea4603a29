"""Moves of least weight that bring what is in frames to its goals."""

from twinleaves.checks import is_between, is_from, is_integer
from twinleaves.errors import BadMemory
from twinleaves.evidence import new_list

MOST_FRAMES = 4096


class Arranged:
    """Moves, the sum of their weights, and the rings of frames, each of which has the next one as its goal."""

    def __init__(self, moves, weight, rings):
        self.moves = new_list(moves)
        self.weight = weight
        self.rings = [new_list(ring) for ring in rings]

    def __eq__(self, other):
        return (isinstance(other, Arranged) and self.moves == other.moves and self.weight == other.weight
                and self.rings == other.rings)

    def shows(self, frames, goals, weights):
        """Whether these moves bring all to their goals for the least weight, and these are all rings."""
        judge_goals(frames, goals, weights)
        rings = rings_of(goals)
        if sorted([turned(ring) for ring in self.rings]) != sorted(rings):
            return False
        weight = weight_moved(frames, goals, weights, self.moves)
        return weight == self.weight and weight == least_weight(goals, weights, rings)


def turned(ring):
    """A ring from its least frame on."""
    if len(ring) == 0:
        return []
    at = ring.index(min(ring))
    return ring[at:] + ring[:at]


def weight_moved(frames, goals, weights, moves):
    """The weight of moves, None if they cannot be done or do not bring all to their goals."""
    inside = {frame: frame for frame in goals}
    weight = 0
    for frame, goal in moves:
        if frame not in inside or goal in inside or not is_between(goal, 0, frames - 1):
            return None
        weight = weight + weights[inside[frame]]
        inside[goal] = inside.pop(frame)
    if not all([inside.get(goal) == frame for frame, goal in goals.items()]):
        return None
    return weight


def least_weight(goals, weights, rings):
    """The least weight of moves that bring all to their goals."""
    away = sum([weights[frame] for frame, goal in goals.items() if frame != goal])
    return away + sum([weights[lightest(ring, weights)] for ring in rings])


def lightest(ring, weights):
    """The frame of a ring that has the least weight, the first one of these."""
    return min([(weights[frame], frame) for frame in ring])[1]


def judge_goals(frames, goals, weights):
    """Raise BadMemory unless these are a number of frames, goals below it, and weights of all that are taken."""
    if not is_between(frames, 1, MOST_FRAMES):
        raise BadMemory("a number of frames is an integer from 1 to 4096")
    if not isinstance(goals, dict) or not all([is_between(frame, 0, frames - 1) for frame in goals]):
        raise BadMemory("goals are no dict of frames")
    found = list(goals.values())
    if not all([is_between(goal, 0, frames - 1) for goal in found]) or len(set(found)) != len(found):
        raise BadMemory("goals are no frames, or not all different")
    if not isinstance(weights, dict):
        raise BadMemory("weights are no dict")
    # A key True would be found as the frame 1, but is none.
    told = {frame: weight for frame, weight in weights.items() if is_integer(frame)}
    if not all([is_from(told.get(frame), 0) for frame in goals]):
        raise BadMemory("a taken frame has no weight")


def rings_of(goals):
    """The rings of goals, each from its least frame on."""
    rings, seen = [], {}
    for frame in sorted(goals):
        row, at = [], frame
        while at in goals and at not in seen:
            seen[at] = True
            row.append(at)
            at = goals[at]
        # Goals are all different: who comes back comes back to where it began.
        if at == frame and len(row) > 1:
            rings.append(row)
    return rings


def arranged(frames, goals, weights):
    """An Arranged for the goals of taken frames, None if there are no such moves."""
    judge_goals(frames, goals, weights)
    rings = rings_of(goals)
    if len(rings) > 0 and len(goals) == frames:
        return None
    moves = []
    for ring in rings:
        moves.extend(moves_of_ring(ring, weights, free_frame(frames, goals)))
    return Arranged(moves + moves_of_rows(goals), least_weight(goals, weights, rings), rings)


def free_frame(frames, goals):
    """The first frame that is not taken."""
    return min([frame for frame in range(frames) if frame not in goals])


def moves_of_ring(ring, weights, free):
    """Moves that bring all of a ring to their goals, the lightest one by a free frame."""
    at = ring.index(lightest(ring, weights))
    row = ring[at:] + ring[:at]
    back = list(zip(row[1:], row[2:] + row[:1]))
    return [(row[0], free), *back[::-1], (free, row[1])]


def moves_of_rows(goals):
    """Moves of all that are in no ring, the one whose goal is free ahead of those behind it."""
    sources = {goal: frame for frame, goal in goals.items()}
    moves = []
    for goal in sorted(sources):
        if goal in goals:
            continue
        at = goal
        while at in sources:
            moves.append((sources[at], at))
            at = sources[at]
    return moves
