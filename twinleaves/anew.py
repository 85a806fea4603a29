"""Short scripts without shows that lead to the standing of a script."""

from twinleaves.doing import first_contents
from twinleaves.errors import TooLarge
from twinleaves.goings import standing_behind
from twinleaves.scripts import MOST_TERMS, Script, judge_script
from twinleaves.standing import OWN
from twinleaves.sums import Sums
from twinleaves.words import fresh_words

MOST_FILES = 20
MOST_TASKS = 6
MOST_MAPPED = 8
MOST_CHANGED = 4
MOST_UNKNOWNS = 8


def anew(script):
    """A script without shows, of a bounded number of steps, that leads to the standing of a script."""
    judge_script(script)
    goal = standing_behind(script, Sums())
    changed = changed_leaves(goal)
    unknowns = unknowns_told(goal, changed)
    judge_size(goal, changed, unknowns)
    helper, *words = fresh_words(goal.spaces, 1 + len(unknowns))
    saved = [(unknown, word) for unknown, word in zip(unknowns, words) if unknown[0] == "file"]
    cells = {unknown: ("cell", word, 0, unknown[3]) for unknown, word in saved}
    steps = begun_files(goal, saved) + saved_unknowns(saved) + cut_files(goal, saved)
    steps = steps + changed_files(goal, changed, helper, cells) + filled_tasks(goal, cells)
    return Script(script.leaves, script.cells, steps + [("end", word) for _, word in saved])


def changed_leaves(goal):
    """The leaves of files whose contents are not those at first, pairs of a file and a leaf."""
    found = []
    for word in sorted(goal.files):
        for leaf, contents in enumerate(goal.files[word]):
            if contents != first_contents(goal, word, leaf):
                found.append((word, leaf))
    return found


def unknowns_told(goal, changed):
    """The ascending list of the unknowns in the contents of own leaves, and of changed leaves of files."""
    told = [goal.files[word][leaf] for word, leaf in changed]
    for space in goal.spaces.values():
        for way, _, held in space.values():
            if way == OWN:
                told.append(held)
    found = {}
    for contents in told:
        for number in contents:
            for unknown, _ in goal.sums.forms[number][1]:
                found[unknown] = True
    return sorted(found)


def judge_size(goal, changed, unknowns):
    """Raise TooLarge if there is too much of something."""
    many = sum([len(space) for space in goal.spaces.values()])
    if len(goal.files) > MOST_FILES or len(goal.spaces) > MOST_TASKS or many > MOST_MAPPED:
        raise TooLarge("there are too many files, tasks or mapped leaves")
    if len(changed) > MOST_CHANGED or len(unknowns) > MOST_UNKNOWNS:
        raise TooLarge("there are too many changed leaves of files, or unknowns")


def first_sizes(goal, saved):
    """For each file how many leaves it must have at first: those that it keeps, and those of unknowns."""
    sizes = {word: len(goal.files[word]) for word in sorted(goal.files)}
    for unknown, _ in saved:
        sizes[unknown[1]] = max(sizes[unknown[1]], 1 + unknown[2])
    return sizes


def begun_files(goal, saved):
    """Steps that begin the files."""
    return [("file", word, size) for word, size in first_sizes(goal, saved).items()]


def saved_unknowns(saved):
    """Steps behind which tasks have own leaves with the unknowns of files, so that these may be changed."""
    steps = []
    for unknown, word in saved:
        _, name, leaf, cell = unknown
        steps.append(("task", word))
        steps.append(("map", word, 0, 1, ("apart", name, leaf), "rw"))
        steps.append(("put", word, 0, cell, (("cell", word, 0, cell, 1),)))
    return steps


def cut_files(goal, saved):
    """Steps that take away leaves of files that were there for unknowns alone."""
    sizes = first_sizes(goal, saved)
    return [("cut", word, len(goal.files[word])) for word in sizes if sizes[word] > len(goal.files[word])]


def changed_files(goal, changed, helper, cells):
    """Steps by which a helping task gives leaves of files their contents."""
    steps = []
    for word, leaf in changed:
        steps.append(("map", helper, 0, 1, ("common", word, leaf), "rw"))
        steps = steps + puts(goal, (helper, 0), first_contents(goal, word, leaf), goal.files[word][leaf], cells)
        steps.append(("unmap", helper, 0, 1))
    return [("task", helper)] + steps + [("end", helper)] if changed else []


def filled_tasks(goal, cells):
    """Steps that begin the tasks and give them their leaves."""
    steps = []
    for name in sorted(goal.spaces):
        steps.append(("task", name))
        for leaf in sorted(goal.spaces[name]):
            steps = steps + mapped(goal, name, leaf, cells)
    return steps


def mapped(goal, name, leaf, cells):
    """Steps that give a task a leaf."""
    way, rights, held = goal.record(name, leaf)
    if way != OWN:
        return [("map", name, leaf, 1, (way, held[0], held[1]), rights)]
    steps = puts(goal, (name, leaf), goal.zeros(), held, cells)
    if len(steps) == 0 or rights == "rw":
        return [("map", name, leaf, 1, ("zero",), rights)] + steps
    return [("map", name, leaf, 1, ("zero",), "rw")] + steps + [("guard", name, leaf, 1, rights)]


def puts(goal, place, old, new, cells):
    """Puts that change contents of a task's leaf: at most two for each cell."""
    steps = []
    for cell, number in enumerate(new):
        if number != old[cell]:
            terms = terms_for(goal.sums.forms[number], cells)
            steps.append(("put", place[0], place[1], cell, tuple(terms[:MOST_TERMS])))
            # Eight unknowns and an integer are one term too many.
            if len(terms) > MOST_TERMS:
                rest = [("cell", place[0], place[1], cell, 1)] + terms[MOST_TERMS:]
                steps.append(("put", place[0], place[1], cell, tuple(rest)))
    return steps


def terms_for(form, cells):
    """The terms of a form, where cells tells which ones hold the unknowns of files."""
    base, rows = form
    terms = []
    for unknown, factor in rows:
        if unknown[0] == "input":
            terms.append(("input", unknown[1], factor))
        else:
            terms.append(cells[unknown] + (factor,))
    return terms + [("number", base)] if base != 0 or len(terms) == 0 else terms
