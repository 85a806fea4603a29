"""How many copies so many forks and puts can need."""

from twinleaves.checks import is_between
from twinleaves.errors import BadNumber
from twinleaves.evidence import new_list

MOST_EACH = 200


class Busy:
    """A number of copies, and steps that need as many."""

    def __init__(self, copies, steps):
        self.copies = copies
        self.steps = new_list(steps)

    def __eq__(self, other):
        return isinstance(other, Busy) and self.copies == other.copies and self.steps == other.steps

    def shows(self, forks, leaves, puts):
        """Whether at most so many forks and puts need these copies, and none can need more."""
        most = most_copies(forks, leaves, puts)
        kinds = [step[0] for step in self.steps]
        if kinds.count("fork") > forks or kinds.count("put") > puts:
            return False
        return self.copies == most and copies_needed(self.steps, leaves) == most


def copies_needed(steps, leaves):
    """How many copies steps need, None if one of them cannot be done."""
    # For each task a dict from leaves to frames, and how many tasks hold each frame.
    tasks, holders = [{}], []
    copies = 0
    for kind, task, leaf in steps:
        if not is_between(task, 0, len(tasks) - 1):
            return None
        held = tasks[task]
        if kind == "fork" and leaf is None:
            for frame in list(held.values()):
                holders[frame] += 1
            tasks.append({each: held[each] for each in held})
        elif kind == "put" and is_between(leaf, 0, leaves - 1):
            if leaf in held and holders[held[leaf]] == 1:
                continue
            if leaf in held:
                holders[held[leaf]] -= 1
                copies = copies + 1
            held[leaf] = len(holders)
            holders.append(1)
        else:
            return None
    return copies


def judge_numbers(forks, leaves, puts):
    """Raise BadNumber unless these are integers from 0 to 200."""
    if not all([is_between(number, 0, MOST_EACH) for number in (forks, leaves, puts)]):
        raise BadNumber("forks, leaves and puts are integers from 0 to 200")


def best_leaves(forks, leaves, puts):
    """The greatest number of copies, and the number of leaves with which they are needed."""
    # Each leaf needs a put for its first frame, and then a copy for each fork at most.
    return max([(min(forks * many, puts - many), -many) for many in range(min(leaves, puts) + 1)])


def most_copies(forks, leaves, puts):
    """The greatest number of copies that so many forks and puts, and leaves below a number, can need."""
    judge_numbers(forks, leaves, puts)
    return best_leaves(forks, leaves, puts)[0]


def busiest(forks, leaves, puts):
    """A Busy of so many forks and puts, and leaves below a number."""
    judge_numbers(forks, leaves, puts)
    copies, less = best_leaves(forks, leaves, puts)
    many = -less
    steps = [("put", 0, leaf) for leaf in range(many)] + [("fork", 0, None) for _ in range(forks)]
    copying = [("put", 1 + task, leaf) for leaf in range(many) for task in range(forks)]
    return Busy(copies, steps + copying[:copies])
