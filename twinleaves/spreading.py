"""Values of unknowns for which unlike contents are unlike."""

from twinleaves.forms import number_of


def values_apart(rows):
    """A dict of values for which contents, tuples of forms that are all unlike, are all unlike."""
    tables = [[factors_of(form) for form in contents] for contents in rows]
    given = {}
    numbers = []
    for at, contents in enumerate(rows):
        numbers.append(tuple([number_of(form, given, 0) for form in contents]))
        # Those ahead are unlike already, so that there is one twin at most.
        twin = numbers.index(numbers[at])
        if twin < at:
            unknown = parting_unknown(tables[twin], tables[at])
            shift = least_shift(numbers, tables, unknown)
            numbers = shifted(numbers, tables, unknown, shift)
            given[unknown] = given.get(unknown, 0) + shift
    return {unknown: given[unknown] for unknown in sorted(given)}


def factors_of(form):
    """The factors of a form, a dict by unknowns."""
    return {unknown: factor for unknown, factor in form[1]}


def parting_unknown(one, other):
    """An unknown that has unlike factors in contents, told by lists of dicts of factors."""
    for ours, theirs in zip(one, other):
        for unknown in sorted([*ours, *theirs]):
            if ours.get(unknown, 0) != theirs.get(unknown, 0):
                return unknown
    return None


def least_shift(numbers, tables, unknown):
    """A power of 2 by which a value can grow so that all contents are unlike."""
    # Each pair of contents rules out one power at most.
    shift = 1
    while len(set(shifted(numbers, tables, unknown, shift))) < len(numbers):
        shift = 2 * shift
    return shift


def shifted(numbers, tables, unknown, shift):
    """The numbers of contents if the value of an unknown grows."""
    found = []
    for held, table in zip(numbers, tables):
        found.append(tuple([number + shift * factors.get(unknown, 0) for number, factors in zip(held, table)]))
    return found
