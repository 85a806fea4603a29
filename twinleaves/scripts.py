"""Scripts: layouts and steps."""

from twinleaves.checks import is_between, is_integer, is_word
from twinleaves.errors import BadScript

MOST_STEPS = 300
MOST_LEAVES = 64
MOST_CELLS = 4
MOST_TERMS = 8
RIGHTS = ("r", "rw")

# What stands behind the kind of a step; the texts of scripts keep this order, too.
SHAPES = {
    "task": ("word",),
    "end": ("word",),
    "fork": ("word", "word"),
    "file": ("word", "size"),
    "cut": ("word", "size"),
    "map": ("word", "number", "many", "way", "rights"),
    "unmap": ("word", "number", "many"),
    "guard": ("word", "number", "many", "rights"),
    "move": ("word", "number", "many", "goal"),
    "put": ("word", "number", "cell", "total"),
    "show": ("word", "number", "cell"),
}

# The least and the greatest of each kind of numbers.
LIMITS = {
    "number": (0, 999),
    "cell": (0, 999),
    "goal": (0, 999),
    "size": (0, 64),
    "many": (1, 64),
}


def is_step(thing):
    """Whether a value of any kind is a step."""
    if not isinstance(thing, tuple) or len(thing) == 0 or not isinstance(thing[0], str):
        return False
    if thing[0] not in SHAPES:
        return False
    shape = SHAPES[thing[0]]
    if len(thing) != 1 + len(shape):
        return False
    if not all([fits(part, thing[1 + at]) for at, part in enumerate(shape)]):
        return False
    return thing[0] != "map" or thing[4][0] == "zero" or thing[4][2] + thing[3] <= MOST_LEAVES


def fits(part, thing):
    """Whether a value of any kind can be such a part of a step."""
    if part in LIMITS:
        low, high = LIMITS[part]
        return is_between(thing, low, high)
    if part == "word":
        return is_word(thing)
    if part == "rights":
        return thing in RIGHTS
    if part == "way":
        return is_way(thing)
    return is_total(thing)


def is_way(thing):
    """Whether a value of any kind is a way to map leaves."""
    if not isinstance(thing, tuple) or len(thing) not in (1, 3):
        return False
    if len(thing) == 1:
        return thing[0] == "zero"
    return thing[0] in ("apart", "common") and is_word(thing[1]) and fits("number", thing[2])


def is_total(thing):
    """Whether a value of any kind is a total."""
    if not isinstance(thing, tuple) or not 1 <= len(thing) <= MOST_TERMS:
        return False
    return all([is_term(term) for term in thing])


def is_term(thing):
    """Whether a value of any kind is a term of a total."""
    if not isinstance(thing, tuple) or len(thing) < 2 or not is_integer(thing[-1]):
        return False
    if len(thing) == 2:
        return thing[0] == "number"
    if len(thing) == 3:
        return thing[0] == "input" and is_word(thing[1])
    if len(thing) != 5 or thing[0] != "cell" or not is_word(thing[1]):
        return False
    return fits("number", thing[2]) and fits("cell", thing[3])


class Script:
    """A layout and steps."""

    def __init__(self, leaves, cells, steps):
        if not is_between(leaves, 1, MOST_LEAVES) or not is_between(cells, 1, MOST_CELLS):
            raise BadScript(None)
        if not isinstance(steps, (list, tuple)) or len(steps) > MOST_STEPS:
            raise BadScript(None)
        for place, step in enumerate(steps):
            if not is_step(step):
                raise BadScript(place)
        self.leaves = leaves
        self.cells = cells
        self.steps = tuple(steps)

    def __eq__(self, other):
        return (isinstance(other, Script) and self.leaves == other.leaves and self.cells == other.cells
                and self.steps == other.steps)

    def __len__(self):
        return len(self.steps)

    def __iter__(self):
        return iter(self.steps)

    def __contains__(self, x):
        # 1 == True, but a tuple with True in it is no step.
        return is_step(x) and x in self.steps

    def __add__(self, other):
        return Script(self.leaves, self.cells, self.steps + steps_like(self, other))

    def __radd__(self, other):
        return Script(self.leaves, self.cells, steps_like(self, other) + self.steps)

    def __mul__(self, other):
        if not is_integer(other):
            return NotImplemented
        return Script(self.leaves, self.cells, repeated(self.steps, other))

    def __rmul__(self, other):
        if not is_integer(other):
            return NotImplemented
        return Script(self.leaves, self.cells, repeated(self.steps, other))

    def part(self, first=0, last=None, *, every=1):
        """The script of the steps that a slice has."""
        return Script(self.leaves, self.cells, self.steps[first:last:every])


def steps_like(script, other):
    """The tuple of the steps of another script of the same layout, or of a list or tuple."""
    if isinstance(other, Script):
        judge_layout(script, other)
        return other.steps
    if not isinstance(other, (list, tuple)):
        raise BadScript(None)
    return tuple(other)


def repeated(steps, many):
    """Steps so many times."""
    if many < 1 or len(steps) == 0:
        return ()
    # Judged ahead of the product, which could be too long to be made.
    if len(steps) * many > MOST_STEPS:
        raise BadScript(None)
    return steps * many


def judge_script(script):
    """Raise BadScript unless this is a script."""
    if not isinstance(script, Script):
        raise BadScript(None)


def judge_layout(one, other):
    """Raise BadScript unless two scripts have one layout."""
    if one.leaves != other.leaves or one.cells != other.cells:
        raise BadScript(None)


def judge_scripts(one, other):
    """Raise BadScript unless these are two scripts of one layout."""
    judge_script(one)
    judge_script(other)
    judge_layout(one, other)
