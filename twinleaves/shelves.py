"""Books that lead to the mapped leaves of tasks."""

from twinleaves.checks import is_between, is_from
from twinleaves.doing import do_step
from twinleaves.errors import BadNumber
from twinleaves.goings import standing_behind
from twinleaves.powers import power
from twinleaves.scripts import MOST_LEAVES, judge_script
from twinleaves.standing import Standing
from twinleaves.sums import Probe

MOST_LEVELS = 6


def books(script, fan, levels):
    """For each task behind a script the list of its numbers of books by levels."""
    judge_script(script)
    judge_shelves(script, fan, levels)
    spaces = standing_behind(script, Probe()).spaces
    return {name: numbers_of_books(spaces[name], fan, levels) for name in sorted(spaces)}


def judge_shelves(script, fan, levels):
    """Raise BadNumber unless fan to the power of levels is the number of leaves."""
    if not is_from(fan, 2) or not is_between(levels, 1, MOST_LEVELS):
        raise BadNumber("a fan is an integer from 2 on, and levels are from 1 to 6")
    if fan > MOST_LEAVES or power(fan, levels) != script.leaves:
        raise BadNumber("the power of fan and levels is not the number of leaves")


def numbers_of_books(space, fan, levels):
    """How many books lead to the mapped leaves of a space, by levels."""
    numbers = []
    for level in range(levels):
        width = power(fan, levels - level)
        numbers.append(len({leaf // width for leaf in space}))
    return numbers


def most_books(script, fan, levels):
    """The greatest number of books of all tasks together behind any step."""
    judge_script(script)
    judge_shelves(script, fan, levels)
    standing = Standing(script.leaves, script.cells, Probe())
    numbers = {}
    most = 0
    for step in script:
        do_step(standing, step)
        # Only a task that the step names can have other leaves now.
        for name in step[1:3]:
            if name in standing.spaces:
                numbers[name] = sum(numbers_of_books(standing.spaces[name], fan, levels))
            elif name in numbers:
                del numbers[name]
        most = max(most, sum(numbers.values()))
    return most
