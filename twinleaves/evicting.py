"""The least price at which leaves are brought into frames."""

from twinleaves.checks import is_between, is_from, is_integer
from twinleaves.errors import BadNumber, BadTouches
from twinleaves.evidence import new_list
from twinleaves.keeping import best_kept, gaps_of

MOST_TOUCHES = 200
MOST_WEIGHT = 1000


class Least:
    """A price, gaps over which leaves stay, and times of places that rule out a lesser price."""

    def __init__(self, price, kept, times):
        self.price = price
        self.kept = new_list(kept)
        self.times = new_list(times)

    def __eq__(self, other):
        return (isinstance(other, Least) and self.price == other.price and self.kept == other.kept
                and self.times == other.times)

    def shows(self, touches, weights, frames):
        """Whether this is the price for the gaps that are kept, and the times rule out a lesser one."""
        judge_touches(touches, weights, frames)
        gaps = gaps_of(touches)
        if not are_kept(self.kept, gaps, len(touches), frames):
            return False
        if len(self.times) != len(touches) or not all([is_from(time, 0) for time in self.times]):
            return False
        whole = sum([weights[leaf] for leaf in touches])
        saved = sum([weights[touches[last]] for _, last in self.kept])
        bound = sum(self.times) * (frames - 1)
        for first, last in gaps:
            bound = bound + max(0, weights[touches[first]] - sum(self.times[first + 1:last]))
        return self.price == whole - saved and self.price == whole - bound


def are_kept(kept, gaps, many, frames):
    """Whether these are gaps, all different, of which fewer than the frames lie around each place."""
    told = {gap: True for gap in gaps}
    if not all([gap in told for gap in kept]) or len(set(kept)) != len(kept):
        return False
    return all([len([first for first, last in kept if first < place < last]) < frames for place in range(many)])


def judge_touches(touches, weights, frames):
    """Raise BadTouches or BadNumber unless these are touches, weights of their leaves, and a number of frames."""
    if not isinstance(touches, (list, tuple)) or len(touches) > MOST_TOUCHES:
        raise BadTouches("touches are a list or tuple of at most 200 leaves")
    if not all([is_from(leaf, 0) for leaf in touches]) or not isinstance(weights, dict):
        raise BadTouches("a leaf is an integer from 0 on, and weights are a dict")
    # A key True would be found as the leaf 1, but is none.
    told = {leaf: weight for leaf, weight in weights.items() if is_integer(leaf)}
    if not all([is_between(told.get(leaf), 1, MOST_WEIGHT) for leaf in touches]):
        raise BadTouches("a leaf has no weight from 1 to 1000")
    if not is_from(frames, 1):
        raise BadNumber("a number of frames is an integer from 1 on")


def least_price(touches, weights, frames):
    """A Least for touches of leaves with weights, in so many frames."""
    judge_touches(touches, weights, frames)
    gaps = gaps_of(touches)
    kept, times = best_kept(len(touches), gaps, [weights[touches[last]] for _, last in gaps], frames)
    price = sum([weights[leaf] for leaf in touches]) - sum([weights[touches[last]] for _, last in kept])
    return Least(price, kept, times)
