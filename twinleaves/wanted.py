"""Which leaves are wanted in front of steps, for what is read behind."""

from twinleaves.doing import do_step, is_refused
from twinleaves.standing import COMMON, Standing


class Story:
    """The steps of a script, which of them are done, and the standings in front of each and behind all."""

    def __init__(self, script, sums):
        standing = Standing(script.leaves, script.cells, sums)
        self.steps = script.steps
        self.standings = [standing.twin()]
        self.done = []
        for step in script.steps:
            self.done.append(not is_refused(do_step(standing, step)))
            self.standings.append(standing.twin())

    def changed(self, place):
        """The leaf that the put at a place changes, if it is done."""
        _, name, leaf, _, _ = self.steps[place]
        way, _, held = self.standings[place].record(name, leaf)
        return ("file", held[0], held[1]) if way == COMMON else ("task", name, leaf)


def wanted_leaves(story):
    """For each step the dict of the leaves that are wanted in front of it; the last one is that behind all."""
    wanted = {}
    turned = [wanted]
    for place in reversed(range(len(story.steps))):
        if story.done[place]:
            wanted = wanted_before(story, place, wanted)
        turned.append(wanted)
    return turned[::-1]


def wanted_before(story, place, wanted):
    """The leaves that are wanted in front of a step that is done, from those behind it."""
    step = story.steps[place]
    front = story.standings[place]
    found = {leaf: True for leaf in wanted}
    if step[0] == "show":
        found[front.source(step[1], step[2])] = True
    elif step[0] == "put" and story.changed(place) in wanted:
        del found[story.changed(place)]
        for leaf in read_by_put(front, step):
            found[leaf] = True
    elif step[0] == "fork":
        for leaf in front.spaces[step[1]]:
            if ("task", step[2], leaf) in wanted:
                found[("task", step[1], leaf)] = True
    elif step[0] == "move":
        _, name, at, many, goal = step
        for leaf in range(at, at + many):
            if ("task", name, leaf - at + goal) in wanted:
                found[("task", name, leaf)] = True
    return {leaf: True for leaf in found if front.is_there(leaf)}


def read_by_put(front, step):
    """The leaves without which a put cannot tell the contents of the one that it changes."""
    _, name, leaf, _, total = step
    found = [front.source(term[1], term[2]) for term in total if term[0] == "cell"]
    if front.cells > 1:
        found.append(front.source(name, leaf))
    return found
