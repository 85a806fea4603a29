"""Desks: steps that are done one by one, on trial or for good."""

from twinleaves.checks import is_from
from twinleaves.doing import do_step, is_refused, is_show
from twinleaves.errors import BadNumber, BadSteps, Refused
from twinleaves.runs import told_as_form
from twinleaves.scripts import MOST_STEPS, Script, is_step
from twinleaves.standing import Standing
from twinleaves.sums import Sums


class Moment:
    """A standing, the steps that led to it, and what they showed; none of this is ever changed."""

    def __init__(self, standing, steps, seen):
        self.standing = standing
        self.steps = steps
        self.seen = seen

    def after(self, step, most):
        """The moment behind one step more, with an allowance or None, and what the step tells."""
        standing = self.standing.twin()
        told = told_as_form(step, do_step(standing, step), standing.sums)
        if most is not None and many_mapped(standing) > max(most, many_mapped(self.standing)):
            standing = self.standing
            told = False
        seen = self.seen + (told,) if is_show(step) else self.seen
        return Moment(standing, self.steps + (step,), seen), told


def many_mapped(standing):
    """How many mapped leaves all tasks have together."""
    return sum([len(space) for space in standing.spaces.values()])


class Mark:
    """A moment and an allowance to which a desk returns."""

    def __init__(self, now, most):
        self.now = now
        self.most = most


class Desk:
    """Steps done or refused one by one, perhaps with an allowance of mapped leaves."""

    def __init__(self, leaves, cells, *, most=None):
        # For the errors of a layout.
        Script(leaves, cells, [])
        judge_most(most)
        self.leaves = leaves
        self.cells = cells
        self.most = most
        self.now = Moment(Standing(leaves, cells, Sums()), (), ())
        # Where the innermost trial returns to, None outside of trials.
        self.mark = None

    def __len__(self):
        return len(self.now.steps)

    def __iter__(self):
        return iter(self.now.steps)

    def __contains__(self, x):
        return isinstance(x, str) and x in self.now.standing.spaces

    def allow(self, most=None):
        """Take another allowance, or none."""
        judge_most(most)
        self.most = most

    def cell(self, name, leaf, cell):
        """The form in a cell, None if it cannot be read."""
        step = ("show", name, leaf, cell)
        judge_step(step)
        return told_as_form(step, self.now.standing.cell(name, leaf, cell), self.now.standing.sums)

    def step(self, step):
        """Do a step; whether it was done, or the form that is shown."""
        self.now, told = self.tried(self.now, step)
        return told

    def must(self, step):
        """Do a step that may not be refused; what it tells."""
        return self.together(step)[0]

    def together(self, *steps):
        """Do steps if none of them is refused; the list of what they tell."""
        now = self.now
        found = []
        for step in steps:
            now, told = self.tried(now, step)
            if is_refused(told):
                raise Refused(step)
            found.append(told)
        self.now = now
        return found

    def tried(self, now, step):
        """The moment behind a moment and a step, and what the step tells."""
        judge_step(step)
        if len(now.steps) == MOST_STEPS:
            raise BadSteps(f"there are {MOST_STEPS} steps")
        return now.after(step, self.most)

    def shown(self):
        """The list of what was shown, None where a show was refused."""
        return list(self.now.seen)

    def script(self):
        """The script of all steps so far."""
        return Script(self.leaves, self.cells, self.now.steps)

    def tasks(self):
        """The ascending list of the tasks."""
        return sorted(self.now.standing.spaces)

    def mapped(self, name):
        """The ascending list of the mapped leaves of a task, empty if it is not there."""
        return sorted(self.now.standing.spaces.get(name, {}))

    def trial(self, work):
        """Call work with the desk, which is then as it was before, or at the last call of keep; what work returns."""
        outer = self.mark
        self.mark = Mark(self.now, self.most)
        try:
            return work(self)
        finally:
            self.now = self.mark.now
            self.most = self.mark.most
            self.mark = outer

    def keep(self):
        """Let the trial, if there is one, end with the desk as it is now."""
        if self.mark is not None:
            self.mark = Mark(self.now, self.most)


def judge_most(most):
    """Raise BadNumber unless this is an allowance, or None."""
    if most is not None and not is_from(most, 0):
        raise BadNumber("an allowance is an integer from 0 on")


def judge_step(step):
    """Raise BadSteps unless this is a step."""
    if not is_step(step):
        raise BadSteps("this is no step")
