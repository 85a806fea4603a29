"""Marks of contents that rule out fewer copies, and the number that they tell."""


def marked_number(store, marks):
    """How many copies marks, a dict from contents to them, show to be needed."""
    number = 0
    for contents, mark in marks.items():
        if mark % 2 == 0 and contents in store.wanted[mark // 2]:
            number += 1
    for place, brought in enumerate(store.brings):
        number = number - len([True for contents in brought if 2 * place + 2 <= marks.get(contents, -1)])
    for place, (old, new) in store.takes.items():
        if marks.get(new, -1) >= 2 * place + 2 and marks.get(old, -1) < 2 * place + 1:
            number = number - 1
    return number


def marks_for(store, joins, plan):
    """Marks for the puts that join in a plan with as few copies as can be.

    Frames flow through times: 2 p is in front of step p, 2 p + 1 within it. Contents are marked up to the last time
    to which one frame more at the time of a copy could be led. None of these is the end, or else a copy could be left
    out; so what is wanted at the marks is just what comes in ahead of them, copies and all.
    """
    flow = Flow(store, joins, plan)
    marks = {}
    todo = [(store.takes[place][0], 2 * place + 1) for place in plan]
    while todo:
        contents, goal = todo.pop()
        for time in range(1 + marks.get(contents, -1), 1 + goal):
            marks[contents] = time
            todo.extend(flow.followers(contents, time))
    return marks


class Flow:
    """The frames of a plan through the times."""

    def __init__(self, store, joins, plan):
        self.store = store
        self.joins = joins
        self.plan = plan
        self.fronts = frames_in_front(store, joins, plan)

    def followers(self, contents, time):
        """The pairs of contents and times to which one frame more leads from such a pair in one step."""
        found = []
        if self.goes_on(contents, time):
            found.append((contents, time + 1))
        # A put that takes a frame can leave it there; one that joins can take one.
        place = (time - 1) // 2
        if place in self.store.takes:
            old, new = self.store.takes[place]
            if time % 2 == 1 and old == contents and place not in self.joins:
                found.append((new, time + 1))
            if time % 2 == 0 and new == contents and place in self.joins:
                found.append((old, time - 1))
        return found

    def goes_on(self, contents, time):
        """Whether more frames with contents than must be are left from a time to the next one."""
        place = time // 2
        frames = self.fronts[place][contents]
        if time % 2 == 0:
            return frames > (1 if contents in self.store.wanted[place] else 0)
        if place == self.store.many:
            return False
        if place in self.store.takes and place not in self.joins and place not in self.plan:
            if self.store.takes[place][0] == contents:
                return frames > 1
        return frames > 0


def frames_in_front(store, joins, plan):
    """For each step a dict from contents to the number of frames with them in front of it; the last one behind all."""
    frames = {contents: 0 for contents in store.moved}
    fronts = []
    for place in range(store.many):
        fronts.append({contents: frames[contents] for contents in frames})
        for contents in store.brings[place]:
            if contents in frames:
                frames[contents] += 1
        if place in store.takes and place not in joins:
            old, new = store.takes[place]
            frames[new] += 1
            if place not in plan:
                frames[old] -= 1
    fronts.append(frames)
    return fronts
