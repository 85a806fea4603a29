"""The second, plainer telling of what the document says, for shelves, frames, desks, turnings, shows and stores.

As in model.py, nothing here is shared with the package.
"""

import copy
import itertools
from fractions import Fraction

from tests.model import World, leaves_there, tuple_of, tuples_of, wanted_of, worlds_of


def books_of(world, fan, levels):
    """For each task the list of the numbers of books by levels, as [8] tells."""
    return {t: [len({leaf // fan ** (levels - level) for leaf in space}) for level in range(levels)]
            for t, space in world.tasks.items()}


def own_contents(world):
    """The contents of own leaves other than zeros, with the leaves that have them."""
    found = {}
    for t, space in world.tasks.items():
        for leaf, told in space.items():
            if told['way'] == 'own' and any(told['held']):
                found.setdefault(tuples_of(told['held']), []).append((t, leaf))
    return found


def needed_frames_of(script):
    worlds, _ = worlds_of(script)
    rows = []
    for world, wanted in list(zip(worlds, wanted_of(script)))[1:]:
        there = leaves_there(world)
        rows.append(len({there[leaf] for leaf in wanted if leaf[0] == 'task'} - {((0, ()),) * script.cells}))
    return rows


class PlainDesk:
    """A desk that keeps all it is by copies."""

    def __init__(self, leaves, cells, most=None):
        self.all = {'world': World(leaves, cells), 'steps': [], 'seen': [], 'most': most}

    def mapped(self, world):
        return sum(len(space) for space in world.tasks.values())

    def step(self, step):
        now = self.all
        world = copy.deepcopy(now['world'])
        told = copy.deepcopy(world.do(step))
        if now['most'] is not None and step[0] in ('map', 'fork') and \
                self.mapped(world) > max(now['most'], self.mapped(now['world'])):
            told = False
        else:
            now['world'] = world
        now['steps'] = now['steps'] + [step]
        if step[0] == 'show':
            told = tuple_of(told)
            now['seen'] = now['seen'] + [told]
        return told

    def copied(self):
        return copy.deepcopy(self.all)


class Lap:
    """A turning behind some turns: what it showed, and its world."""

    def __init__(self, turning):
        self.turning, self.world, self.seen = turning, World(turning.leaves, turning.cells), []
        self.do(turning.ahead)

    def do(self, steps):
        self.seen += shows_of(self.world, steps)

    def whole(self):
        return self.seen + shows_of(copy.deepcopy(self.world), self.turning.behind)

    def shape(self):
        tasks = {t: {leaf: (told['way'], told['rights'], None if told['way'] == 'own' else told['held'])
                     for leaf, told in space.items()} for t, space in self.world.tasks.items()}
        return tasks, {f: len(rows) for f, rows in self.world.files.items()}

    def cells(self):
        many = sum(len(rows) for rows in self.world.files.values())
        many += sum(told['way'] == 'own' for space in self.world.tasks.values() for told in space.values())
        return many * self.turning.cells


def shows_of(world, steps):
    seen = []
    for step in steps:
        told = copy.deepcopy(world.do(step))
        if step[0] == 'show':
            seen.append(tuple_of(told))
    return seen


def bound_of(one, other):
    """The number of [17], of which unlike_turns is promised only up to 400."""
    laps, shapes, cells = [Lap(one), Lap(other)], [], []
    while True:
        shape = [lap.shape() for lap in laps]
        if shape in shapes:
            p, q = shapes.index(shape), len(shapes)
            return max(q, p + (q - p) * (1 + max(cells[p:])))
        shapes.append(shape)
        cells.append(sum(lap.cells() for lap in laps))
        for lap in laps:
            lap.do(lap.turning.body)


def first_unlike_of(one, other, most):
    """The least number of turns, at most so many, for which what is shown is not the same, or None."""
    laps = [Lap(one), Lap(other)]
    for many in range(most + 1):
        if laps[0].whole() != laps[1].whole():
            return many
        for lap in laps:
            lap.do(lap.turning.body)
    return None


def tells_of(forms, unknown):
    """Whether an unknown is a sum of the forms times fractions, but for integers."""
    rows = [dict(form[1]) for form in forms if form is not None]
    keys = sorted({key for row in rows for key in row} | {unknown})
    table = [[Fraction(row.get(key, 0)) for key in keys] for row in rows]
    goal = [Fraction(key == unknown) for key in keys]
    return rank(table + [goal]) == rank(table)


def rank(table):
    table, found = [list(row) for row in table], 0
    for at in range(len(table[0]) if table else 0):
        pick = next((k for k in range(found, len(table)) if table[k][at]), None)
        if pick is None:
            continue
        table[found], table[pick] = table[pick], table[found]
        for k in range(found + 1, len(table)):
            factor = table[k][at] / table[found][at]
            table[k] = [x - factor * y for x, y in zip(table[k], table[found])]
        found += 1
    return found


def stored_of(script, room, rule):
    """What the machine with a store does: seen, touched, ins, outs, as [7] and [19] tell."""
    world = World(script.leaves, script.cells)
    held, given, clock = {}, 0, itertools.count()
    memory, gone, seen, touched, ins, outs = {}, set(), [], [], 0, 0
    for step in script.steps:
        before = copy.deepcopy(world)
        told = copy.deepcopy(world.do(step))
        if step[0] == 'show':
            seen.append(tuple_of(told))
        now = []
        if told is None or told is False:
            continue
        if step[0] == 'put':
            now += [held.get(term[1:3]) for term in step[4] if term[0] == 'cell']
        if step[0] in ('put', 'show'):
            now.append(held.get(step[1:3]))
        if step[0] == 'put':
            way = before.tasks[step[1]][step[2]]['way']
            sharers = [leaf for leaf, frame in held.items() if frame == held.get(step[1:3])]
            if way == 'apart' or (way == 'own' and len(sharers) != 1):
                held[step[1:3]] = given
                now.append(given)
                given += 1
        if step[0] == 'fork':
            held.update({(step[2], leaf): frame for (t, leaf), frame in held.items() if t == step[1]})
        if step[0] == 'move':
            _, t, at, many, to = step
            rows = [held.pop((t, at + k), None) for k in range(many)]
            held.update({(t, to + k): frame for k, frame in enumerate(rows) if frame is not None})
        held = {(t, leaf): frame for (t, leaf), frame in held.items() if leaf in world.tasks.get(t, {})}
        for frame in now:
            if frame is None:
                continue
            touched.append(frame)
            if frame not in memory:
                if len(memory) == room:
                    out = min(memory, key=lambda each: memory[each])
                    del memory[out]
                    gone.add(out)
                    outs += 1
                ins += frame in gone
                gone.discard(frame)
                memory[frame] = next(clock)
            elif rule == 'idle':
                memory[frame] = next(clock)
        memory = {frame: at for frame, at in memory.items() if frame in held.values()}
        gone &= set(held.values())
    return seen, touched, ins, outs
