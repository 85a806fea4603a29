"""Walks along the steps of scripts and desks, and counts of steps."""

from twinleaves.checks import is_from
from twinleaves.doing import do_step
from twinleaves.errors import BadNumber, BadSteps
from twinleaves.runs import told_as_form
from twinleaves.scripts import Script, judge_script
from twinleaves.standing import Standing
from twinleaves.sums import Probe, Sums


def walk(script, *, start=0, every=1):
    """Triples of a place from a start on, so many apart, its step, and what this tells."""
    judge_script(script)
    if not is_from(start, 0) or not is_from(every, 1):
        raise BadNumber("a start is an integer from 0 on, and places are so many apart from 1 on")
    sums = Sums()
    standing = Standing(script.leaves, script.cells, sums)
    for place, step in enumerate(script.steps):
        told = told_as_form(step, do_step(standing, step), sums)
        if place >= start and (place - start) % every == 0:
            yield place, step, told


def changes(script, task):
    """Pairs of a place behind which the mapped leaves of a task are other ones, and of these, None without the task."""
    judge_script(script)
    standing = Standing(script.leaves, script.cells, Probe())
    before = None
    for place, step in enumerate(script.steps):
        do_step(standing, step)
        mapped = sorted(standing.spaces[task]) if task in standing.spaces else None
        if mapped != before:
            before = mapped
            # What is given away can be changed before the next step.
            yield place, None if mapped is None else list(mapped)


def watcher(desk):
    """A function that returns the steps that a desk has behind as many as it had the last time."""
    seen = len(desk)

    def watched():
        """The list of these steps."""
        nonlocal seen
        steps = list(desk)[seen:]
        seen = len(desk)
        return steps

    return watched


class Meter:
    """Counts of steps of some kinds."""

    KINDS = ("fork", "map", "put", "show", "unmap")

    def __init__(self, *kinds):
        for kind in kinds:
            if kind not in Meter.KINDS:
                raise BadSteps("this is no kind of steps that are counted")
        self.numbers = {kind: 0 for kind in Meter.KINDS if len(kinds) == 0 or kind in kinds}

    def __iter__(self):
        return iter(self.numbers.items())

    def __call__(self, told, times=1):
        steps = told.steps if isinstance(told, Script) else (told,)
        many = 0
        for step in steps:
            if step[0] in self.numbers:
                self.numbers[step[0]] += times
                many = many + times
        return many

    def count(self, kind):
        """The number of a kind, 0 for another value."""
        return self.numbers[kind] if kind in list(self.numbers) else 0

    def altogether(self):
        """The sum of all numbers."""
        return sum(self.numbers.values())
