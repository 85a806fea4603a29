"""What the cells of leaves hold: numbers that stand for forms, or that are values of forms."""

ZERO = (0, ())

# A prime, below which the numbers of a Probe stay.
PRIME = 2305843009213693951
STRIDE = 48271


def telling_values(one, other):
    """A dict of values for which two unlike forms have unlike numbers."""
    if one[0] != other[0]:
        return {}
    ours = {unknown: factor for unknown, factor in one[1]}
    theirs = {unknown: factor for unknown, factor in other[1]}
    for unknown in sorted([*ours, *theirs]):
        if ours.get(unknown, 0) != theirs.get(unknown, 0):
            return {unknown: 1}
    return {}


class Sums:
    """Forms by numbers: equal ones have one number, and 0 is that of the form in which all is 0."""

    def __init__(self):
        self.forms = [ZERO]
        self.numbers = {ZERO: 0}

    def number_of(self, form):
        """The number of a form."""
        number = self.numbers.get(form)
        if number is None:
            number = len(self.forms)
            self.numbers[form] = number
            self.forms.append(form)
        return number

    def number_for(self, unknown):
        """The number of the form of an unknown."""
        return self.number_of((0, ((unknown, 1),)))

    def total(self, constant, parts):
        """The number of the sum of an integer and of products, pairs of a form's number and a factor."""
        factors = {}
        for number, many in parts:
            base, rows = self.forms[number]
            constant = constant + base * many
            for unknown, factor in rows:
                factors[unknown] = factors.get(unknown, 0) + factor * many
        left = [(unknown, factors[unknown]) for unknown in sorted(factors) if factors[unknown] != 0]
        return self.number_of((constant, tuple(left)))


class Values:
    """Numbers of forms for a dict of values, all others 0."""

    def __init__(self, given):
        self.given = {unknown: given[unknown] for unknown in given}

    def number_for(self, unknown):
        """The number of an unknown."""
        return self.given.get(unknown, 0)

    def total(self, constant, parts):
        """The sum of an integer and of products, pairs of a number and a factor."""
        for number, many in parts:
            # Numbers can be long, and a product by 1 is a copy.
            constant = constant + (number if many == 1 else number * many)
        return constant


class Probe:
    """Remainders of the numbers of forms, for values without a plain pattern.

    Unlike remainders come of unlike forms; equal ones leave it open.
    """

    def __init__(self):
        self.given = {}
        self.last = 1

    def number_for(self, unknown):
        """The number of an unknown, the same one each time."""
        if unknown not in self.given:
            self.last = (self.last * STRIDE + 1) % PRIME
            self.given[unknown] = self.last
        return self.given[unknown]

    def total(self, constant, parts):
        """The remainder of the sum of an integer and of products, pairs of a number and a factor."""
        return (constant + sum([number * many for number, many in parts])) % PRIME
