"""How few strokes, one over another, give each of some places in a row its mark."""


def least_strokes(marks):
    """For pairs of places the least number of strokes between, and how far the first mark's stroke goes at first."""
    many = len(marks)
    table, goes = {}, {}
    for low in range(many, -1, -1):
        table[(low, low)] = 0
        for high in range(low + 1, many + 1):
            table[(low, high)], goes[(low, high)] = 1 + table[(low + 1, high)], None
            for other in range(low + 1, high):
                number = table[(low + 1, other)] + table[(other, high)]
                if marks[other] == marks[low] and number < table[(low, high)]:
                    table[(low, high)], goes[(low, high)] = number, other
    return {pair: table[pair] for pair in sorted(table)}, goes


def strokes_between(goes, low, high):
    """Strokes, pairs of their first and last places, the later ones over earlier ones."""
    found = []
    left = [(low, high)]
    while len(left) > 0:
        first, end = left.pop()
        if first == end:
            continue
        last = first
        while goes[(last, end)] is not None:
            # The stroke goes on to this place; what lies between is laid over it.
            left.append((last + 1, goes[(last, end)]))
            last = goes[(last, end)]
        left.append((last + 1, end))
        found.append((first, last))
    return found


def is_bounded(table, marks):
    """Whether a dict has numbers for all pairs of places that rule out fewer strokes than they are."""
    many = len(marks)
    pairs = [(low, high) for low in range(many + 1) for high in range(low, many + 1)]
    if sorted(table) != pairs:
        return False
    return all([is_bound(table, marks, low, high) for low, high in pairs])


def is_bound(table, marks, low, high):
    """Whether the number of a pair of places is at most what those within it let it be."""
    if low == high:
        return table[(low, high)] <= 0
    parts = [other for other in range(low + 1, high) if marks[other] == marks[low]]
    sums = [table[(low + 1, other)] + table[(other, high)] for other in parts]
    return table[(low, high)] <= min([1 + table[(low + 1, high)]] + sums)
