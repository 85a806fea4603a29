"""Words that stand for no task yet."""

from twinleaves.checks import LETTERS


def fresh_words(taken, many):
    """So many words, the first ones that are not among those that are taken."""
    found = []
    for word in short_words():
        if len(found) < many and word not in taken:
            found.append(word)
    return found


def short_words():
    """The words of one letter, then those of two: more than a script has steps."""
    return [*LETTERS] + [one + other for one in LETTERS for other in LETTERS]
