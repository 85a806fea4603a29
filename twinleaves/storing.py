"""The lazy machine, of whose frames only so many are in memory at a time."""

from twinleaves.checks import is_from
from twinleaves.doing import is_refused
from twinleaves.errors import BadNumber
from twinleaves.lazy import Machine
from twinleaves.runs import forms_shown
from twinleaves.scripts import judge_script

OLDEST = "oldest"
IDLE = "idle"


class StoredRun:
    """What the machine shows, the frames that it touches, and how often frames came in again and went out."""

    def __init__(self, seen, touched, ins, outs):
        self.seen = list(seen)
        self.touched = list(touched)
        self.ins = ins
        self.outs = outs

    def __eq__(self, other):
        return (isinstance(other, StoredRun) and self.seen == other.seen and self.touched == other.touched
                and self.ins == other.ins and self.outs == other.outs)


class Room:
    """Frames in memory, the one that goes out first at the front, and those that have ever gone out."""

    def __init__(self, most, rule):
        self.most = most
        self.rule = rule
        self.inside = []
        self.gone = {}
        self.touched = []
        self.ins = 0
        self.outs = 0

    def touch(self, frame):
        """Touch a frame, which comes in if it is not in memory."""
        self.touched.append(frame)
        if frame in self.inside:
            if self.rule == IDLE:
                self.inside.remove(frame)
                self.inside.append(frame)
            return
        if len(self.inside) == self.most:
            self.gone[self.inside.pop(0)] = True
            self.outs += 1
        if frame in self.gone:
            self.ins += 1
        self.inside.append(frame)

    def leave(self, holders):
        """Drop the frames that no leaf holds any more."""
        # None of these is ever touched again.
        self.inside = [frame for frame in self.inside if frame in holders]


def frames_read(machine, step):
    """The frames that a put or show touches, in front of it, in order."""
    if step[0] not in ("put", "show"):
        return []
    leaves = [(step[1], step[2])]
    if step[0] == "put":
        leaves = [(term[1], term[2]) for term in step[4] if term[0] == "cell"] + leaves
    frames = [machine.held.get(name, {}).get(leaf) for name, leaf in leaves]
    return [frame for frame in frames if frame is not None]


def stored(script, room, rule):
    """What the machine with a store does, for a room of frames and a rule."""
    judge_script(script)
    if not is_from(room, 1) or rule not in (OLDEST, IDLE):
        raise BadNumber("a room is an integer from 1 on, and a rule is one of two words")
    machine = Machine(script.leaves, script.cells, None)
    memory = Room(room, rule)
    told = []
    for step in script:
        frames = frames_read(machine, step)
        many = machine.many
        told.append(machine.do(step))
        if not is_refused(told[-1]):
            # The number of a new frame is that of those ahead of it.
            for frame in frames + list(range(many, machine.many)):
                memory.touch(frame)
        memory.leave(machine.holders)
    seen = forms_shown(script.steps, told, machine.standing.sums)
    return StoredRun(seen, memory.touched, memory.ins, memory.outs)
