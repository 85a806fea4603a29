"""Rows of integers by keys, in which all unknowns but one are made to vanish."""

from math import gcd


class Rows:
    """Rows of a system, each with an unknown that no later one has; the goal is never such an unknown.

    A row is a dict from unknowns and from places of shows to integers, not 0: the shows at these places so many times
    are together the unknowns so many times, but for integers.
    """

    def __init__(self, goal):
        self.goal = goal
        self.held = []

    def take(self, place, form):
        """Take the form of a show in; the row without other unknowns than the goal, None if there is none yet."""
        row = {unknown: factor for unknown, factor in form[1]}
        row[("show", place)] = 1
        for pivot, held in self.held:
            if pivot in row:
                row = without_pivot(row, held, pivot)
        others = [key for key in row if key[0] != "show" and key != self.goal]
        if len(others) == 0:
            return row if self.goal in row else None
        self.held.append((min(others), row))
        return None

    def hidden(self):
        """Values, not 0 for the goal, for which all rows are 0."""
        found = {self.goal: 1}
        for pivot, row in reversed(list(self.held)):
            rest = sum([number * row.get(unknown, 0) for unknown, number in found.items()])
            if rest != 0:
                scale = abs(row[pivot]) // gcd(rest, row[pivot])
                found = {unknown: number * scale for unknown, number in found.items()}
                found[pivot] = -(rest * scale) // row[pivot]
        return {unknown: found[unknown] for unknown in sorted(found)}


def without_pivot(row, held, pivot):
    """A row and another one so many times, whose pivot vanishes by that."""
    common = gcd(row[pivot], held[pivot])
    ours, theirs = held[pivot] // common, row[pivot] // common
    found = {key: number * ours for key, number in row.items()}
    for key, number in held.items():
        found[key] = found.get(key, 0) - number * theirs
    return lessened({key: number for key, number in found.items() if number != 0})


def lessened(row):
    """A row without common divisors."""
    common = 0
    for number in row.values():
        common = gcd(common, number)
        if common == 1:
            return row
    return {key: number // common for key, number in row.items()}
