"""What steps do to a standing, and what they tell."""

from twinleaves.standing import COMMON, OWN


def begin_task(standing, step):
    """Do a step task; each of these functions returns whether the step was done."""
    if step[1] in standing.spaces:
        return False
    standing.spaces[step[1]] = {}
    return True


def end_task(standing, step):
    """Do a step end."""
    if step[1] not in standing.spaces:
        return False
    del standing.spaces[step[1]]
    return True


def fork_task(standing, step):
    """Do a step fork."""
    if step[1] not in standing.spaces or step[2] in standing.spaces:
        return False
    standing.spaces[step[2]] = standing.spaces[step[1]]
    return True


def begin_file(standing, step):
    """Do a step file."""
    word, many = step[1], step[2]
    if word in standing.files:
        return False
    standing.files[word] = tuple([first_contents(standing, word, leaf) for leaf in range(many)])
    return True


def first_contents(standing, word, leaf):
    """The contents that a leaf of a file has at first."""
    return tuple([standing.sums.number_for(("file", word, leaf, cell)) for cell in range(standing.cells)])


def cut_file(standing, step):
    """Do a step cut."""
    word, many = step[1], step[2]
    if word not in standing.files:
        return False
    rows = standing.files[word]
    standing.files[word] = rows[:many] + (standing.zeros(),) * (many - len(rows))
    return True


def map_leaves(standing, step):
    """Do a step map."""
    _, name, at, many, way, rights = step
    run = standing.run(name, at, many)
    if run is None or (way[0] != "zero" and way[1] not in standing.files):
        return False
    space = dict(standing.spaces[name])
    for leaf in run:
        if leaf in space:
            return False
        if way[0] == "zero":
            space[leaf] = (OWN, rights, standing.zeros())
        else:
            space[leaf] = (way[0], rights, (way[1], way[2] + leaf - at))
    standing.spaces[name] = space
    return True


def unmap_leaves(standing, step):
    """Do a step unmap."""
    _, name, at, many = step
    run = standing.run(name, at, many)
    if run is None:
        return False
    space = dict(standing.spaces[name])
    for leaf in run:
        space.pop(leaf, None)
    standing.spaces[name] = space
    return True


def guard_leaves(standing, step):
    """Do a step guard."""
    _, name, at, many, rights = step
    run = standing.run(name, at, many)
    if run is None:
        return False
    space = dict(standing.spaces[name])
    for leaf in run:
        if leaf not in space:
            return False
        way, _, held = space[leaf]
        space[leaf] = (way, rights, held)
    standing.spaces[name] = space
    return True


def move_leaves(standing, step):
    """Do a step move."""
    _, name, at, many, goal = step
    run = standing.run(name, at, many)
    if run is None or goal + many > standing.leaves:
        return False
    old = standing.spaces[name]
    space = dict(old)
    for leaf in run:
        if leaf not in old or leaf - at + goal in old:
            return False
        space[leaf - at + goal] = space.pop(leaf)
    standing.spaces[name] = space
    return True


def put_cell(standing, step):
    """Do a step put."""
    _, name, leaf, cell, total = step
    old = standing.cell(name, leaf, cell)
    if old is None or standing.record(name, leaf)[1] != "rw":
        return False
    number = total_number(standing, total)
    if number is None:
        return False
    contents = standing.contents(standing.source(name, leaf))
    give_contents(standing, name, leaf, contents[:cell] + (number,) + contents[cell + 1:])
    return True


def give_contents(standing, name, leaf, contents):
    """Let a leaf that can be read have contents, as a put does."""
    way, rights, held = standing.record(name, leaf)
    if way == COMMON:
        word, off = held
        rows = standing.files[word]
        standing.files[word] = rows[:off] + (contents,) + rows[off + 1:]
    else:
        space = dict(standing.spaces[name])
        space[leaf] = (OWN, rights, contents)
        standing.spaces[name] = space


def total_number(standing, total):
    """What a cell holds behind a put of a total, None if a cell of it cannot be read."""
    constant = 0
    parts = []
    for term in total:
        if term[0] == "number":
            constant = constant + term[1]
        elif term[0] == "input":
            parts.append((standing.sums.number_for(("input", term[1])), term[2]))
        else:
            number = standing.cell(term[1], term[2], term[3])
            if number is None:
                return None
            parts.append((number, term[4]))
    return standing.sums.total(constant, parts)


def show_cell(standing, step):
    """What a step show shows, None if it is refused."""
    return standing.cell(step[1], step[2], step[3])


DOERS = {
    "task": begin_task,
    "end": end_task,
    "fork": fork_task,
    "file": begin_file,
    "cut": cut_file,
    "map": map_leaves,
    "unmap": unmap_leaves,
    "guard": guard_leaves,
    "move": move_leaves,
    "put": put_cell,
    "show": show_cell,
}


def do_step(standing, step):
    """Do a step; whether it was done, or for a show what is shown, None if it is refused."""
    action = DOERS[step[0]]
    return action(standing, step)


def do_steps(standing, steps):
    """Do steps; the list of what they tell."""
    told = []
    for step in steps:
        told.append(do_step(standing, step))
    return told


def is_refused(told):
    """Whether a step that told this was refused."""
    # 0 == False, but a show that shows 0 is done.
    return told is None or told is False


def is_show(step):
    """Whether a step is a show."""
    return step[0] == "show"


def shown_by(steps, told):
    """Of what steps tell, that of the shows."""
    return [word for step, word in zip(steps, told) if is_show(step)]
