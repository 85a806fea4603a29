"""A second, plainer telling of what the document says, against which the tests hold the program.

Nothing here is shared with the package: cells hold dicts from unknowns to factors (1 stands for the integer), each
standing is copied whole for each step, and what is least is found by trying everything.
"""

import copy
import itertools
import random


class World:
    """Tasks and files as [4] tells them."""

    def __init__(self, leaves, cells):
        self.leaves = leaves
        self.cells = cells
        self.tasks = {}
        self.files = {}

    def zeros(self):
        return [{} for _ in range(self.cells)]

    def contents(self, t, leaf):
        """The list of forms of a leaf that can be read, or None."""
        told = self.tasks.get(t, {}).get(leaf)
        if told is None:
            return None
        if told['way'] == 'own':
            return told['held']
        f, off = told['held']
        return self.files[f][off] if off < len(self.files[f]) else None

    def cell(self, t, leaf, cell):
        contents = self.contents(t, leaf)
        return None if contents is None or cell >= self.cells else contents[cell]

    def in_space(self, at, many):
        return at + many <= self.leaves

    def do(self, step):
        """True or False, or the form that is shown (None if it is refused)."""
        return getattr(self, 'do_' + step[0])(*step[1:])

    def do_task(self, t):
        if t in self.tasks:
            return False
        self.tasks[t] = {}
        return True

    def do_end(self, t):
        return self.tasks.pop(t, None) is not None

    def do_fork(self, t, u):
        if t not in self.tasks or u in self.tasks:
            return False
        self.tasks[u] = copy.deepcopy(self.tasks[t])
        return True

    def do_file(self, f, n):
        if f in self.files:
            return False
        self.files[f] = [[{('file', f, leaf, cell): 1} for cell in range(self.cells)] for leaf in range(n)]
        return True

    def do_cut(self, f, n):
        if f not in self.files:
            return False
        rows = self.files[f]
        self.files[f] = [rows[at] if at < len(rows) else self.zeros() for at in range(n)]
        return True

    def do_map(self, t, at, many, way, rights):
        if t not in self.tasks or not self.in_space(at, many):
            return False
        if any(leaf in self.tasks[t] for leaf in range(at, at + many)):
            return False
        if way[0] != 'zero' and way[1] not in self.files:
            return False
        for k in range(many):
            if way[0] == 'zero':
                told = {'way': 'own', 'held': self.zeros(), 'rights': rights}
            else:
                told = {'way': way[0], 'held': (way[1], way[2] + k), 'rights': rights}
            self.tasks[t][at + k] = told
        return True

    def do_unmap(self, t, at, many):
        if t not in self.tasks or not self.in_space(at, many):
            return False
        for leaf in range(at, at + many):
            self.tasks[t].pop(leaf, None)
        return True

    def all_mapped(self, t, at, many):
        return t in self.tasks and self.in_space(at, many) and \
            all(leaf in self.tasks[t] for leaf in range(at, at + many))

    def do_guard(self, t, at, many, rights):
        if not self.all_mapped(t, at, many):
            return False
        for leaf in range(at, at + many):
            self.tasks[t][leaf]['rights'] = rights
        return True

    def do_move(self, t, at, many, to):
        if not self.all_mapped(t, at, many) or not self.in_space(to, many):
            return False
        if any(leaf in self.tasks[t] for leaf in range(to, to + many)):
            return False
        taken = [self.tasks[t].pop(leaf) for leaf in range(at, at + many)]
        for k, told in enumerate(taken):
            self.tasks[t][to + k] = told
        return True

    def do_put(self, t, leaf, cell, total):
        if self.cell(t, leaf, cell) is None or self.tasks[t][leaf]['rights'] != 'rw':
            return False
        form = {}
        for term in total:
            if term[0] == 'number':
                form[1] = form.get(1, 0) + term[1]
            elif term[0] == 'input':
                form[('input', term[1])] = form.get(('input', term[1]), 0) + term[2]
            else:
                held = self.cell(*term[1:4])
                if held is None:
                    return False
                for key, factor in held.items():
                    form[key] = form.get(key, 0) + factor * term[4]
        form = {key: factor for key, factor in form.items() if factor}
        told = self.tasks[t][leaf]
        if told['way'] == 'apart':
            told['held'] = list(self.contents(t, leaf))
            told['way'] = 'own'
        self.contents(t, leaf)[cell] = form
        return True

    def do_show(self, t, leaf, cell):
        return self.cell(t, leaf, cell)


def tuple_of(form):
    """A form as the document tells it."""
    if form is None:
        return None
    return (form.get(1, 0), tuple(sorted((key, factor) for key, factor in form.items() if key != 1)))


def tuples_of(contents):
    return tuple(tuple_of(form) for form in contents)


def worlds_of(script):
    """The worlds in front of each step and behind all, and what each step tells."""
    world = World(script.leaves, script.cells)
    worlds, told = [copy.deepcopy(world)], []
    for step in script.steps:
        told.append(copy.deepcopy(world.do(step)))
        worlds.append(copy.deepcopy(world))
    return worlds, told


def seen_of(script):
    """The shown forms, as the document tells them."""
    _, told = worlds_of(script)
    return [tuple_of(form) for step, form in zip(script.steps, told) if step[0] == 'show']


def refused_of(script):
    _, told = worlds_of(script)
    return [place for place, word in enumerate(told) if word is None or word is False]


def standing_of(world):
    """All that a world holds, as a value that can be compared."""
    tasks = {t: {leaf: (told['way'], told['rights'],
                        tuples_of(told['held']) if told['way'] == 'own' else told['held'])
                 for leaf, told in space.items()} for t, space in world.tasks.items()}
    return tasks, {f: [tuples_of(contents) for contents in rows] for f, rows in world.files.items()}


def number_of(form, values):
    if form is None:
        return None
    return form[0] + sum(values.get(key, 0) * factor for key, factor in form[1])


def leaves_there(world):
    """The leaves of [9] with their contents."""
    found = {('task', t, leaf): tuples_of(told['held']) for t, space in world.tasks.items()
             for leaf, told in space.items() if told['way'] == 'own'}
    for f, rows in world.files.items():
        for at, contents in enumerate(rows):
            found[('file', f, at)] = tuples_of(contents)
    return found


def holder_of(world, t, leaf):
    told = world.tasks[t][leaf]
    return ('task', t, leaf) if told['way'] == 'own' else ('file',) + told['held']


def changed_by(world, step):
    told = world.tasks[step[1]][step[2]]
    return ('file',) + told['held'] if told['way'] == 'common' else ('task', step[1], step[2])


def wanted_of(script):
    """For each step the set of wanted leaves in front of it, and the last one behind all, as [9] tells."""
    worlds, told = worlds_of(script)
    wanted = [set() for _ in worlds]
    for p in reversed(range(len(script.steps))):
        step, world, now = script.steps[p], worlds[p], set(wanted[p + 1])
        if told[p] is not None and told[p] is not False:
            if step[0] == 'show':
                now.add(holder_of(world, step[1], step[2]))
            if step[0] == 'put' and changed_by(world, step) in now:
                now.discard(changed_by(world, step))
                now |= {holder_of(world, term[1], term[2]) for term in step[4] if term[0] == 'cell'}
                if script.cells > 1:
                    now.add(holder_of(world, step[1], step[2]))
            if step[0] == 'fork':
                now |= {('task', step[1], leaf[2]) for leaf in now if leaf[:2] == ('task', step[2])}
            if step[0] == 'move':
                _, t, at, many, to = step
                now |= {('task', t, at + k) for k in range(many) if ('task', t, to + k) in now}
        wanted[p] = {leaf for leaf in now if leaf in leaves_there(world)}
    return wanted


def store_of(script):
    """Wanted contents in front of each step, frames that steps bring, and pairs that puts can take."""
    worlds, told = worlds_of(script)
    wanted = wanted_of(script)
    contents = [{leaves_there(world)[leaf] for leaf in wanted[p]} for p, world in enumerate(worlds)]
    zeros = ((0, ()),) * script.cells
    brings, takes = {}, {}
    for p, step in enumerate(script.steps):
        if told[p] is None or told[p] is False:
            continue
        if step[0] == 'file':
            brings[p] = [tuples_of(rows) for rows in worlds[p + 1].files[step[1]]]
        if step[0] == 'put' and changed_by(worlds[p], step) in wanted[p + 1]:
            j = tuples_of(worlds[p].contents(step[1], step[2]))
            k = leaves_there(worlds[p + 1])[changed_by(worlds[p], step)]
            if script.cells == 1 or (j == zeros and k != zeros):
                brings[p] = [k] if k != zeros else []
            elif j != zeros and k != zeros and j != k:
                takes[p] = (j, k)
    return [{c for c in row if c != zeros} for row in contents], brings, takes


def joinable_of(script):
    """The puts that [10]'s TooLarge counts."""
    _, brings, takes = store_of(script)
    return [q for q, (_, k) in takes.items()
            if any(k in brings.get(p, []) or (p in takes and takes[p][1] == k) for p in range(q))]


def fewest_copies(script, most):
    """The least number of copies over all ways to copy, take and join, at most so many, by trying all of them."""
    contents, brings, takes = store_of(script)
    states = {(): 0}
    for p in range(len(script.steps)):
        if p not in brings and p not in takes:
            states = only_standing(states, contents[p + 1])
            continue
        states = with_copies(states, contents[p], most)
        after = {}
        for frames, cost in states.items():
            for frames in ways_of(dict(frames), brings.get(p, []), takes.get(p)):
                key = tuple(sorted(frames.items()))
                after[key] = min(after.get(key, cost), cost)
        states = only_standing(after, contents[p + 1])
    return min(states.values(), default=None)


def only_standing(states, wanted):
    return {frames: cost for frames, cost in states.items() if wanted <= set(dict(frames))}


def with_copies(states, wanted, most):
    found, todo = dict(states), list(states.items())
    while todo:
        frames, cost = todo.pop()
        for k, (c, many) in enumerate(frames):
            more = frames[:k] + ((c, many + 1),) + frames[k + 1:]
            if c in wanted and cost < most and found.get(more, cost + 2) > cost + 1:
                found[more] = cost + 1
                todo.append((more, cost + 1))
    return found


def ways_of(frames, brought, take):
    for c in brought:
        frames[c] = frames.get(c, 0) + 1
    yield frames
    if take is not None and frames.get(take[0], 0) > 0:
        frames = dict(frames)
        frames[take[0]] -= 1
        if frames[take[0]] == 0:
            del frames[take[0]]
        frames[take[1]] = frames.get(take[1], 0) + 1
        yield frames


def marked_number(script, marks, store=None):
    """The number that [10] tells of marks, word by word."""
    contents, brings, takes = store or store_of(script)
    table = dict(marks)
    number = sum(1 for c, m in marks if m % 2 == 0 and c in contents[m // 2])
    number -= sum(1 for q, row in brings.items() for c in row if c in table and 2 * q + 2 <= table[c])
    number -= sum(1 for q, (j, k) in takes.items()
                  if k in table and table[k] >= 2 * q + 2 and (j not in table or table[j] < 2 * q + 1))
    return number


def lazily_of(script, limit=None):
    """Frames of the lazy machine: seen, refused, frames behind each step, fresh, copied."""
    world = World(script.leaves, script.cells)
    held, fresh, copied, seen, refused, frames = {}, 0, 0, [], [], []
    for place, step in enumerate(script.steps):
        before = copy.deepcopy(world)
        told = world.do(step)
        done = told is not None and told is not False
        if done and step[0] == 'put':
            leaf = (step[1], step[2])
            way = before.tasks[step[1]][step[2]]['way']
            alone = leaf in held and sum(1 for frame in held.values() if frame == held[leaf]) == 1
            if way == 'apart' or (way == 'own' and not alone):
                if limit is not None and len(set(held.values())) == limit:
                    world, done, told = before, False, False
                else:
                    fresh += way == 'own' and leaf not in held
                    copied += way == 'apart' or leaf in held
                    held[leaf] = place
        elif done and step[0] == 'fork':
            held.update({(step[2], leaf): frame for (t, leaf), frame in held.items() if t == step[1]})
        elif done and step[0] == 'move':
            rows = [held.pop((step[1], step[2] + k), None) for k in range(step[3])]
            held.update({(step[1], step[4] + k): frame for k, frame in enumerate(rows) if frame is not None})
        held = {(t, leaf): frame for (t, leaf), frame in held.items() if leaf in world.tasks.get(t, {})}
        if step[0] == 'show':
            seen.append(tuple_of(told))
        if not done:
            refused.append(place)
        frames.append(len(set(held.values())))
    return seen, refused, frames, fresh, copied


def needed_of(script, part):
    """The places of [6]; part makes a script of the steps at places."""
    whole, stay = seen_of(script), list(range(len(script.steps)))
    while True:
        before = list(stay)
        for place in reversed(before):
            fewer = [p for p in stay if p != place]
            if seen_of(part(fewer)) == whole:
                stay = fewer
        if stay == before:
            return stay


class Maker:
    """Makes scripts of steps that have to do with one another, by a seed."""

    def __init__(self, seed, leaves=3, cells=2, tasks='abc', files='fg', inputs='xy'):
        self.dice = random.Random(seed)
        self.leaves, self.cells = leaves, cells
        self.tasks, self.files, self.inputs = tasks, files, inputs

    def pick(self, row):
        return self.dice.choice(row)

    def number(self, low, high):
        return self.dice.randint(low, high)

    def term(self):
        kind = self.number(0, 5)
        factor = self.pick([1, 1, 1, 2, -1, -3, 0])
        if kind == 0:
            return ('number', self.number(-3, 9))
        if kind < 3:
            return ('input', self.pick(self.inputs), factor)
        return ('cell', self.pick(self.tasks), self.number(0, self.leaves - 1), self.number(0, self.cells - 1), factor)

    def total(self, most=3):
        return tuple(self.term() for _ in range(self.number(1, most)))

    def way(self, many):
        if self.number(0, 2) == 0:
            return ('zero',)
        return (self.pick(['apart', 'common']), self.pick(self.files), self.number(0, min(3, 64 - many)))

    def run(self):
        at = self.number(0, self.leaves - 1)
        return at, self.number(1, self.leaves - at + (self.number(0, 9) == 0))

    def step(self, kinds):
        kind = self.pick(kinds)
        t, f, rights = self.pick(self.tasks), self.pick(self.files), self.pick(['r', 'rw', 'rw', 'rw'])
        at, many = self.run()
        if kind in ('task', 'end'):
            return (kind, t)
        if kind == 'fork':
            return (kind, t, self.pick(self.tasks))
        if kind in ('file', 'cut'):
            return (kind, f, self.number(0, 4))
        if kind == 'map':
            return (kind, t, at, many, self.way(many), rights)
        if kind == 'unmap':
            return (kind, t, at, many)
        if kind == 'guard':
            return (kind, t, at, many, rights)
        if kind == 'move':
            return (kind, t, at, many, self.number(0, self.leaves - 1))
        cell = self.number(0, self.cells - (self.number(0, 9) > 0))
        if kind == 'put':
            return (kind, t, at, cell, self.total())
        return (kind, t, at, cell)

    def steps(self, many, kinds=None):
        every = ['task', 'end', 'fork', 'file', 'cut', 'map', 'unmap', 'guard', 'move', 'put', 'show']
        kinds = kinds or every + ['put', 'show', 'map', 'put', 'show', 'put'] * 2
        front = [('task', self.tasks[0]), ('file', self.files[0], 3)]
        front.append(('map', self.tasks[0], 0, self.number(1, self.leaves), self.way(1), 'rw'))
        return (front + [self.step(kinds) for _ in range(max(0, many - 3))])[:many]


def subsets(row):
    return itertools.chain.from_iterable(itertools.combinations(row, n) for n in range(len(row) + 1))


def sharing_script(script, seed, many=14):
    """A script (made by script) in which tasks share leaves, put few different values, and show much."""
    dice = random.Random(seed)
    leaves, cells = dice.choice([1, 1, 1, 2]), dice.choice([2, 2, 2, 3])
    tasks = 'abcde'[:dice.randint(2, 5)]
    values = [(('number', n),) for n in range(dice.randint(2, 4))] + [(('input', 'x', 1),)] * dice.randint(0, 1)
    kinds = ['put'] * dice.randint(2, 8) + ['show'] * dice.randint(0, 2) + ['fork', 'end', 'move']
    steps = first_sharing(dice, leaves)
    steps += [('fork', 'a', t) for t in tasks[1:] if dice.random() < 0.7]
    for _ in range(many):
        kind, t = dice.choice(kinds), dice.choice(tasks)
        leaf, cell = dice.randrange(leaves), dice.choice([1, 1, 1, 0])
        if kind == 'fork':
            steps.append(('fork', t, dice.choice(tasks)))
        elif kind == 'put':
            total = dice.choice(values)
            if dice.random() < 0.1:
                total = (('cell', dice.choice(tasks), dice.randrange(leaves), dice.randrange(2), 1),)
            steps.append(('put', t, leaf, cell, total))
        elif kind == 'end' and dice.random() < 0.3:
            steps.append(('end', t))
        elif kind == 'move':
            steps.append(('move', t, 0, 1, 1))
        else:
            steps.append(('show', t, leaf, cell))
    steps += [('show', t, leaf, 0) for t in tasks for leaf in range(leaves) if dice.random() < 0.9]
    return script(leaves, cells, steps)


def first_sharing(dice, leaves):
    """Steps behind which task a has leaves that are not zero."""
    if dice.random() < 0.7:
        return [('task', 'a'), ('map', 'a', 0, leaves, ('zero',), 'rw'), ('put', 'a', 0, 0, (('input', 'x', 1),))]
    steps = [('task', 'a'), ('file', 'f', dice.randint(1, 2))]
    steps.append(('map', 'a', 0, leaves, (dice.choice(['apart', 'common']), 'f', 0), 'rw'))
    if dice.random() < 0.5:
        steps += [('task', 'b'), ('map', 'b', 0, leaves, ('apart', 'f', 0), 'rw')]
    return steps


def knotted_script(script, seed):
    """A script (made by script) in which many tasks share leaves that become alike and unlike again."""
    dice = random.Random(seed)
    leaves, tasks, most = dice.choice([1, 1, 1, 2]), 'abcdefgh'[:dice.randint(3, 8)], dice.randint(1, 5)
    steps = [('task', 'a'), ('map', 'a', 0, leaves, ('zero',), 'rw'), ('put', 'a', 0, 0, (('input', 'x', 1),))]
    if dice.random() < 0.2:
        way = (dice.choice(['common', 'apart']), 'f', 0)
        steps = [('file', 'f', 1), ('task', 'a'), ('map', 'a', 0, 1, way, 'rw')]
    steps += [('fork', 'a', t) for t in tasks[1:] if dice.random() < 0.9]
    shows, ends, forks, firsts = dice.random() / 2, dice.random() / 10, dice.random() / 6, dice.random() / 2
    for _ in range(dice.randint(5, 40)):
        t, leaf, part = dice.choice(tasks), dice.randrange(leaves), dice.random()
        if part < shows:
            steps.append(('show', t, leaf, 0))
        elif part < shows + ends:
            steps.append(('end', t))
        elif part < shows + ends + forks:
            steps.append(('fork', dice.choice(tasks), t))
        elif dice.random() < firsts:
            steps.append(('put', t, leaf, 0, dice.choice([(('input', 'x', 1),), (('number', dice.randint(0, 2)),)])))
        else:
            steps.append(('put', t, leaf, 1, (('number', dice.randint(0, most)),)))
    steps += [('show', t, leaf, 0) for t in tasks for leaf in range(leaves) if dice.random() < 0.8]
    return script(leaves, 2, steps)
