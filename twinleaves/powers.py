"""Powers of integers."""


def power(base, many):
    """An integer to the power of another one from 0 on."""
    found = 1
    for _ in range(many):
        found = found * base
    return found
