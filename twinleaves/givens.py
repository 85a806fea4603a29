"""Values of unknowns as objects, and their texts."""

from twinleaves.checks import is_form, is_integer, is_unknown, judge_given
from twinleaves.errors import BadGiven, BadText, BadValues
from twinleaves.evidence import new_dict
from twinleaves.forms import Form, number_of
from twinleaves.reading import is_figures, lines_of, read_part, read_sign


class Given:
    """Integers for some unknowns, and a spare one for all others."""

    def __init__(self, told=None, *, spare=0):
        if told is not None:
            judge_given(told)
        if not is_integer(spare):
            raise BadValues("the spare value is no integer")
        self.numbers = {} if told is None else new_dict(told)
        self.spare = spare

    def __eq__(self, other):
        return isinstance(other, Given) and self.numbers == other.numbers and self.spare == other.spare

    def __len__(self):
        return len(self.numbers)

    def __iter__(self):
        raise TypeError("a Given is not iterated over")

    def __contains__(self, x):
        # An unknown with True in it would be found as one with 1.
        return is_unknown(x) and x in self.numbers

    def __getitem__(self, at):
        return self.numbers[at] if at in self else self.spare

    def __setitem__(self, at, worth):
        if not is_unknown(at) or not is_integer(worth):
            raise BadValues("this is no unknown, or no integer")
        self.numbers[at] = worth

    def __or__(self, other):
        if not isinstance(other, Given):
            return NotImplemented
        return Given({**self.numbers, **other.numbers}, spare=other.spare)

    def __call__(self, form):
        told = form.form if isinstance(form, Form) else form
        if not is_form(told):
            raise BadValues("this is no form")
        return number_of(told, self.numbers, self.spare)

    def drop(self, unknown):
        """Take the integer of an unknown away, and return it."""
        if unknown not in self:
            raise BadValues("there is no value of this")
        return self.numbers.pop(unknown)

    def pairs(self):
        """A dict from the unknowns to their integers."""
        return {unknown: self.numbers[unknown] for unknown in sorted(self.numbers)}


def read_given(told):
    """The Given of a text."""
    if not isinstance(told, str):
        raise BadGiven(0, 0)
    try:
        return Given(values_of(lines_of(told)))
    except BadText as wrong:
        raise BadGiven(wrong.line, wrong.column) from None


def values_of(lines):
    """The dict of the values that lines tell."""
    found = {}
    for line in lines:
        unknown = read_unknown(line)
        line.take_mark("=")
        found[unknown] = read_sign(line) * line.take_figures()
        line.finish()
    return found


def read_unknown(line):
    """The unknown at the front of a line."""
    word = line.take_word()
    if not is_figures(line.next_piece()):
        return ("input", word)
    leaf = read_part(line, "number", [])
    return ("file", word, leaf, read_part(line, "cell", []))
