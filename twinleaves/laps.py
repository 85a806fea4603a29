"""Two turnings that are run side by side, turn by turn."""

from twinleaves.alikes import first_gap
from twinleaves.doing import do_steps, is_show, shown_by
from twinleaves.standing import OWN, Standing
from twinleaves.sums import Probe, Values


class Runner:
    """A turning behind some turns: its standing, and its shows that are still to be compared."""

    def __init__(self, turning, sums):
        self.turning = turning
        self.standing = Standing(turning.leaves, turning.cells, sums)
        self.left = shown_by(turning.ahead, do_steps(self.standing, turning.ahead))

    def turn(self):
        """Run the body once more."""
        self.left = self.left + shown_by(self.turning.body, do_steps(self.standing, self.turning.body))

    def leave(self, many):
        """Leave the first ones of the shows behind."""
        self.left = self.left[many:]

    def whole(self):
        """The shows that are still to be compared, with those of the steps behind."""
        return self.left + shown_by(self.turning.behind, do_steps(self.standing.twin(), self.turning.behind))


class Pair:
    """Two runners with the same sums, and the number of the shows, equal ones, that they have left behind."""

    def __init__(self, one, other, sums):
        self.one = Runner(one, sums)
        self.other = Runner(other, sums)
        self.passed = 0

    def turn(self):
        """Let both turn once, and leave behind what is equal."""
        self.one.turn()
        self.other.turn()
        equal = first_gap(self.one.left, self.other.left)
        if equal is None:
            equal = len(self.one.left)
        self.one.leave(equal)
        self.other.leave(equal)
        self.passed = self.passed + equal

    def gap(self):
        """The first show at which the scripts of so many turns differ, and what both show there, None if none does."""
        ours, theirs = self.one.whole(), self.other.whole()
        place = first_gap(ours, theirs)
        if place is None:
            return None
        return self.passed + place, shown_at(ours, place), shown_at(theirs, place)


def shown_at(told, place):
    """What is shown at a place, None if nothing is."""
    return told[place] if place < len(told) else None


class Sizes:
    """Bounds of the factors of forms, and which unknowns have been used.

    What an unknown alone holds is the unknown itself, so that it tells when it is used; what other forms hold is the
    bound of their factors and of their integer.
    """

    def __init__(self):
        self.greatest = 1
        self.used = {}

    def number_for(self, unknown):
        """What an unknown holds."""
        return unknown

    def use(self, held):
        """The bound of what is used."""
        if isinstance(held, tuple):
            self.used[held] = True
            return 1
        return held

    def total(self, constant, parts):
        """The bound of the sum of an integer and of products, pairs of what cells hold and a factor."""
        size = abs(constant) + sum([self.use(held) * abs(many) for held, many in parts])
        self.greatest = max(self.greatest, size)
        return size


def sizes_within(one, other, most):
    """The Sizes of the scripts of two turnings of up to so many turns."""
    sizes = Sizes()
    runners = [Runner(one, sizes), Runner(other, sizes)]
    for _ in range(most + 1):
        for runner in runners:
            for held in runner.whole():
                sizes.use(held)
            runner.leave(len(runner.left))
            runner.turn()
    return sizes


def first_unlike(one, other, most):
    """The least number of turns, at most so many, for which scripts differ, with the place and values; None if none."""
    sizes = sizes_within(one, other, most)
    unknowns = sorted(sizes.used)
    # A form is told by one number, in which each factor has a place so wide that no difference of two fills it.
    width = 1 + sizes.greatest.bit_length()
    pair = Pair(one, other, Values({unknown: 1 << (width * (1 + at)) for at, unknown in enumerate(unknowns)}))
    for many in range(most + 1):
        found = pair.gap()
        if found is not None:
            place, ours, theirs = found
            if ours is None or theirs is None:
                return many, place, {}
            return many, place, values_told(ours - theirs, width, unknowns)
        pair.turn()
    return None


def values_told(number, width, unknowns):
    """Values for which the form, not 0, that a number tells is not 0."""
    for at, unknown in enumerate([None, *unknowns]):
        if (number >> (width * at)) % (1 << width) != 0:
            return {} if unknown is None else {unknown: 1}
    return {}


def gap_for(one, other, many, given):
    """The first show at which scripts of so many turns differ for given values, None if none does."""
    pair = Pair(one, other, Values(given))
    for _ in range(many):
        pair.turn()
    found = pair.gap()
    return None if found is None else found[0]


def turns_enough(one, other):
    """A number of turns, so that two turnings are alike if their scripts are for all numbers up to it."""
    pair = Pair(one, other, Probe())
    ours, theirs = pair.one.standing, pair.other.standing
    shapes = {}
    cells = []
    shape = (shape_of(ours), shape_of(theirs))
    while shape not in shapes:
        shapes[shape] = len(cells)
        cells.append(cells_of(ours) + cells_of(theirs))
        pair.turn()
        shape = (shape_of(ours), shape_of(theirs))
    first = shapes[shape]
    number = max(len(cells), first + (len(cells) - first) * (1 + max(cells[first:])))
    # Where one has more shows ahead of the turns, shows of unlike turns are compared.
    more = abs(count_shows(one.ahead) - count_shows(other.ahead))
    shows = count_shows(one.body)
    return number + 1 + more // shows if more > 0 and shows > 0 else number


def count_shows(steps):
    """How many shows are among steps."""
    return len([step for step in steps if is_show(step)])


def shape_of(standing):
    """What decides which steps are done: files with their sizes, tasks, and mapped leaves with all but contents."""
    rows = [(word, len(standing.files[word])) for word in sorted(standing.files)]
    for name in sorted(standing.spaces):
        space = standing.spaces[name]
        rows.append((name,))
        for leaf in sorted(space):
            way, rights, held = space[leaf]
            rows.append((leaf, way, rights, None if way == OWN else held))
    return tuple(rows)


def cells_of(standing):
    """The number of cells that own leaves and files have."""
    many = sum([len(rows) for rows in standing.files.values()])
    for space in standing.spaces.values():
        many = many + len([True for way, _, _ in space.values() if way == OWN])
    return many * standing.cells
