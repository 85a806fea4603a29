"""What integers, ascending ones, words and unknowns are, and dicts of values for unknowns."""

from twinleaves.errors import BadValues

LETTERS = "abcdefghijklmnopqrstuvwxyz"
MOST_NUMBER = 999
MOST_LETTERS = 8


def is_integer(thing):
    """Whether a value of any kind is an integer; True and False are none."""
    return isinstance(thing, int) and not isinstance(thing, bool)


def is_between(thing, low, high):
    """Whether a value of any kind is an integer from low to high."""
    return is_integer(thing) and low <= thing <= high


def is_from(thing, low):
    """Whether a value of any kind is an integer from low on."""
    return is_integer(thing) and thing >= low


def is_ascending(thing, most):
    """Whether a value of any kind is an ascending list or tuple of integers from 0 to the most."""
    if not isinstance(thing, (list, tuple)) or not all([is_between(number, 0, most) for number in thing]):
        return False
    return all([low < high for low, high in zip(thing, thing[1:])])


def is_word(thing):
    """Whether a value of any kind is a word."""
    if not isinstance(thing, str) or not 1 <= len(thing) <= MOST_LETTERS:
        return False
    return all(["a" <= sign <= "z" for sign in thing])


def is_unknown(thing):
    """Whether a value of any kind is an unknown."""
    if not isinstance(thing, tuple) or len(thing) not in (2, 4) or not is_word(thing[1]):
        return False
    if len(thing) == 2:
        return thing[0] == "input"
    return thing[0] == "file" and all([is_between(number, 0, MOST_NUMBER) for number in thing[2:]])


def is_given(thing):
    """Whether a value of any kind is a dict from unknowns to integers."""
    if not isinstance(thing, dict):
        return False
    return all([is_unknown(unknown) and is_integer(number) for unknown, number in thing.items()])


def is_form(thing):
    """Whether a value of any kind is a form."""
    if not isinstance(thing, tuple) or len(thing) != 2 or not is_integer(thing[0]) or not isinstance(thing[1], tuple):
        return False
    last = None
    for row in thing[1]:
        if not isinstance(row, tuple) or len(row) != 2 or not is_unknown(row[0]):
            return False
        if not is_integer(row[1]) or row[1] == 0 or (last is not None and row[0] <= last):
            return False
        last = row[0]
    return True


def judge_unknown(thing):
    """Raise BadValues unless this is an unknown."""
    if not is_unknown(thing):
        raise BadValues("this is no unknown")


def judge_given(thing):
    """Raise BadValues unless this is a dict from unknowns to integers."""
    if not is_given(thing):
        raise BadValues("these are no values of unknowns")
