"""How few copies of frames are enough for a script."""

from twinleaves.checks import is_between, is_form
from twinleaves.errors import TooLarge
from twinleaves.evidence import new_list
from twinleaves.marking import marked_number, marks_for
from twinleaves.scripts import judge_script
from twinleaves.stores import Store
from twinleaves.sums import Sums

MOST_JOINABLE = 10


class Copies:
    """The puts that join, those in front of which is copied, and marks of contents that rule out fewer copies."""

    def __init__(self, joins, plan, marks):
        self.joins = new_list(joins)
        self.plan = new_list(plan)
        self.marks = new_list(marks)

    def __eq__(self, other):
        return (isinstance(other, Copies) and self.joins == other.joins and self.plan == other.plan
                and self.marks == other.marks)

    def shows(self, script):
        """Whether the plan is one for a script, and the marks tell that none has fewer copies."""
        judge_script(script)
        sums = Sums()
        store = Store(script, sums)
        judge_size(store)
        if not are_joins(store, self.joins) or not are_marks(script, self.marks):
            return False
        plan = store.plan_for(self.joins)
        if plan is None or plan != self.plan:
            return False
        marks = {numbered(sums, contents): mark for contents, mark in self.marks}
        if len(marks) != len(self.marks) or store.blank in marks:
            return False
        return marked_number(store, marks) == len(plan)


def are_joins(store, joins):
    """Whether places are ascending, and those of puts that can take a frame."""
    return all([place in store.takes and (at == 0 or joins[at - 1] < place) for at, place in enumerate(joins)])


def are_marks(script, marks):
    """Whether marks are pairs of contents and of integers that are in bounds."""
    for pair in marks:
        if not isinstance(pair, tuple) or len(pair) != 2 or not is_between(pair[1], 0, 2 * len(script) + 1):
            return False
        if not isinstance(pair[0], tuple) or len(pair[0]) != script.cells:
            return False
        if not all([is_form(form) for form in pair[0]]):
            return False
    return True


def numbered(sums, contents):
    """The numbers of the forms of contents."""
    return tuple([sums.number_of(form) for form in contents])


def least_copies(script):
    """A Copies for a script."""
    judge_script(script)
    sums = Sums()
    store = Store(script, sums)
    judge_size(store)
    joins, plan = best_plan(store)
    marks = marks_for(store, joins, plan)
    told = sorted([(tuple([sums.forms[number] for number in contents]), mark) for contents, mark in marks.items()])
    return Copies(joins, plan, told)


def judge_size(store):
    """Raise TooLarge if too many puts could join."""
    if len(store.joinable()) > MOST_JOINABLE:
        raise TooLarge(f"more than {MOST_JOINABLE} puts can take a frame for contents that were there before")


def best_plan(store):
    """The puts that join, and the copies, for as few copies as can be."""
    # Without frames for its new contents no put can join.
    rows = [[]]
    for place in store.joinable():
        rows = rows + [row + [place] for row in rows]
    best = None
    for row in rows:
        plan = store.plan_for(row)
        if plan is not None and (best is None or len(plan) < len(best[1])):
            best = (row, plan)
    return best
