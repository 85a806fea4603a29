"""Forms as objects: sums of an integer and of unknowns, each so many times."""

from twinleaves.checks import is_form, is_integer, is_unknown
from twinleaves.errors import BadForm
from twinleaves.sums import ZERO


class Form:
    """An integer, and unknowns with factors."""

    SIGNS = ("+", "-")

    def __init__(self, told):
        if not is_form(told):
            raise BadForm("this is no form")
        self.form = told
        self.base = told[0]
        self.rows = told[1]
        self.unknowns = [unknown for unknown, _ in told[1]]

    @staticmethod
    def of(n):
        """The Form of an integer."""
        return Form((n, ()))

    # A default value for leaf and cell could be given as one, and would then be taken for none.
    @staticmethod
    def named(x, *place, **more):
        """The Form of an input, or of a file's cell, with its leaf and cell."""
        told = list(place) + [more[name] for name in ("leaf", "cell") if name in more]
        unknown = ("input", x) if len(told) == 0 else ("file", x, *told)
        return Form((0, ((unknown, 1),)))

    def __eq__(self, other):
        if isinstance(other, Form):
            return self.form == other.form
        return is_integer(other) and self.form == (other, ())

    def __len__(self):
        return len(self.rows)

    def __iter__(self):
        return iter(self.rows)

    def __contains__(self, x):
        return factor_in(self.form, x) != 0

    def __bool__(self):
        return bool(self.form != ZERO)

    def __add__(self, other):
        if not is_summand(other):
            return NotImplemented
        return Form(summed(self.form, form_of(other), 1))

    def __radd__(self, other):
        if not is_summand(other):
            return NotImplemented
        return Form(summed(self.form, form_of(other), 1))

    def __sub__(self, other):
        if not is_summand(other):
            return NotImplemented
        return Form(summed(self.form, form_of(other), -1))

    def __rsub__(self, other):
        if not is_summand(other):
            return NotImplemented
        return Form(summed(form_of(other), self.form, -1))

    def __mul__(self, other):
        if not is_integer(other):
            return NotImplemented
        return Form(summed(ZERO, self.form, other))

    def __rmul__(self, other):
        if not is_integer(other):
            return NotImplemented
        return Form(summed(ZERO, self.form, other))

    def __neg__(self):
        return Form(summed(ZERO, self.form, -1))

    def __call__(self, values):
        return number_of(self.form, values, 0)

    def factor(self, unknown):
        """The factor of an unknown, 0 for another value."""
        return factor_in(self.form, unknown)

    def text(self, *, compact=False):
        """The text of the form; a compact one has no blanks around signs."""
        blank = "" if compact else " "
        parts = [(factor, written_product(unknown, factor)) for unknown, factor in self.rows]
        if self.base != 0 or len(parts) == 0:
            parts.append((self.base, str(abs(self.base))))
        first, word = parts[0]
        row = Form.SIGNS[1] + blank + word if first < 0 else word
        for number, word in parts[1:]:
            sign = Form.SIGNS[1] if number < 0 else Form.SIGNS[0]
            row = row + blank + sign + blank + word
        return row


def is_summand(thing):
    """Whether a value of any kind is added to a Form."""
    return isinstance(thing, Form) or is_integer(thing)


def form_of(thing):
    """The form of a Form or an integer."""
    return thing.form if isinstance(thing, Form) else (thing, ())


def summed(one, other, many):
    """The form of a form, and of another one so many times."""
    factors = {unknown: factor for unknown, factor in one[1]}
    for unknown, factor in other[1]:
        factors[unknown] = factors.get(unknown, 0) + factor * many
    left = [(unknown, factors[unknown]) for unknown in sorted(factors) if factors[unknown] != 0]
    return (one[0] + other[0] * many, tuple(left))


def factor_in(form, thing):
    """The factor that a form has for an unknown, 0 for a value of any other kind."""
    # A file's unknown with True in it is equal to one with 1, but is none.
    if not is_unknown(thing):
        return 0
    return sum([factor for unknown, factor in form[1] if unknown == thing])


def number_of(form, values, spare):
    """The number of a form for a dict of values, and a spare one for all other unknowns."""
    return form[0] + sum([values.get(unknown, spare) * factor for unknown, factor in form[1]])


def written_product(unknown, factor):
    """An unknown with its factor, but for the sign."""
    size = abs(factor)
    front = "" if size == 1 else f"{size} "
    if unknown[0] == "input":
        return front + unknown[1]
    return f"{front}{unknown[1]} {unknown[2]}.{unknown[3]}"
