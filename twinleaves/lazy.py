"""The lazy machine, which gives frames to own leaves when they are put into."""

from twinleaves.checks import is_from
from twinleaves.doing import do_step, is_refused
from twinleaves.errors import BadNumber
from twinleaves.runs import forms_shown, refused_places
from twinleaves.scripts import judge_script
from twinleaves.standing import APART, OWN, Standing
from twinleaves.sums import Sums

NONE = "none"
FRESH = "fresh"
COPIED = "copied"


class LazyRun:
    """What the lazy machine shows and refuses, its numbers of frames, and how they were given."""

    def __init__(self, seen, refused, frames, fresh, copies):
        self.seen = list(seen)
        self.refused = list(refused)
        self.frames = list(frames)
        self.greatest = max(self.frames, default=0)
        self.fresh = fresh
        self.copies = copies

    def __eq__(self, other):
        return (isinstance(other, LazyRun) and self.seen == other.seen and self.refused == other.refused
                and self.frames == other.frames and self.greatest == other.greatest
                and self.fresh == other.fresh and self.copies == other.copies)


class Machine:
    """A standing, and for each task a dict from its leaves that hold a frame to the frame's number."""

    def __init__(self, leaves, cells, limit):
        self.standing = Standing(leaves, cells, Sums())
        self.limit = limit
        self.held = {}
        # How many leaves hold each frame; one that none holds is gone.
        self.holders = {}
        self.many = 0
        self.fresh = 0
        self.copies = 0

    def do(self, step):
        """Do a step; what it tells."""
        need = self.need(step) if step[0] == "put" else NONE
        if need != NONE and self.limit is not None and len(self.holders) >= self.limit:
            return False
        told = do_step(self.standing, step)
        if not is_refused(told):
            self.follow(step, need)
        return told

    def need(self, step):
        """What new frame a put needs if it is done."""
        record = self.standing.record(step[1], step[2])
        if record is None:
            return NONE
        if record[0] == APART:
            return COPIED
        if record[0] != OWN:
            return NONE
        frame = self.held[step[1]].get(step[2])
        if frame is None:
            return FRESH
        return COPIED if self.holders[frame] > 1 else NONE

    def follow(self, step, need):
        """Give and drop frames for a step that was done."""
        kind, name = step[0], step[1]
        if kind == "task":
            self.held[name] = {}
        elif kind == "end":
            for leaf in sorted(self.held[name]):
                self.drop(name, leaf)
            del self.held[name]
        elif kind == "fork":
            self.held[step[2]] = {}
            for leaf, frame in list(self.held[name].items()):
                self.hold(step[2], leaf, frame)
        elif kind == "unmap":
            for leaf in range(step[2], step[2] + step[3]):
                self.drop(name, leaf)
        elif kind == "move":
            self.carry(name, step[2], step[3], step[4])
        elif need != NONE:
            self.give(name, step[2], need)

    def hold(self, name, leaf, frame):
        """Let a leaf without a frame hold one."""
        self.held[name][leaf] = frame
        self.holders[frame] = self.holders.get(frame, 0) + 1

    def drop(self, name, leaf):
        """Let a leaf hold no frame."""
        frame = self.held[name].pop(leaf, None)
        if frame is None:
            return
        self.holders[frame] = self.holders[frame] - 1
        if self.holders[frame] == 0:
            del self.holders[frame]

    def carry(self, name, at, many, goal):
        """Let frames move with their leaves."""
        held = self.held[name]
        for leaf in range(at, at + many):
            if leaf in held:
                held[leaf - at + goal] = held.pop(leaf)

    def give(self, name, leaf, need):
        """Give a leaf a new frame."""
        self.drop(name, leaf)
        self.hold(name, leaf, self.many)
        self.many += 1
        if need == FRESH:
            self.fresh += 1
        else:
            self.copies += 1


def lazily(script, limit=None):
    """What the lazy machine does, with a limit of frames or without one."""
    judge_script(script)
    if limit is not None and not is_from(limit, 0):
        raise BadNumber("a limit is an integer from 0 on")
    machine = Machine(script.leaves, script.cells, limit)
    told = []
    frames = []
    for step in script:
        told.append(machine.do(step))
        frames.append(len(machine.holders))
    seen = forms_shown(script.steps, told, machine.standing.sums)
    return LazyRun(seen, refused_places(told), frames, machine.fresh, machine.copies)


def least_limit(script):
    """The least limit with which no put is refused for it."""
    # Only a put that needs a new frame makes them more, by one.
    return lazily(script).greatest
