"""The store of frames by contents, which copies serve: what steps bring to it and take from it."""

from twinleaves.wanted import Story, wanted_leaves


class Store:
    """What the steps of a script do to a store, where contents are tuples of numbers of forms.

    wanted has for each step the contents that are wanted in front of it, and those behind all; brings for each step
    the list of the contents of the frames that it brings; takes the pairs of contents of the puts that can take one.
    """

    def __init__(self, script, sums):
        story = Story(script, sums)
        leaves = wanted_leaves(story)
        self.many = len(script)
        self.blank = story.standings[0].zeros()
        self.wanted = []
        for place, front in enumerate(story.standings):
            self.wanted.append({front.contents(leaf): True for leaf in leaves[place]})
        self.brings = [[] for _ in script]
        self.takes = {}
        for place, step in enumerate(script):
            if story.done[place] and step[0] == "file":
                self.brings[place] = list(story.standings[place + 1].files[step[1]])
            elif story.done[place] and step[0] == "put" and story.changed(place) in leaves[place + 1]:
                self.note_put(story, place)
        # No other contents matter for copies.
        self.moved = moved_contents(self.takes)
        self.events = []
        for place in range(self.many):
            brought = [contents for contents in self.brings[place] if contents in self.moved]
            if brought or place in self.takes:
                self.events.append((place, brought))

    def note_put(self, story, place):
        """Note what a put brings or can take."""
        front, behind = story.standings[place], story.standings[place + 1]
        source = front.source(story.steps[place][1], story.steps[place][2])
        old, new = front.contents(source), behind.contents(story.changed(place))
        zeros = front.zeros()
        if front.cells == 1 or old == zeros:
            if new != zeros:
                self.brings[place] = [new]
        elif new not in (zeros, old):
            self.takes[place] = (old, new)

    def joinable(self):
        """The places of the puts that can take a frame, and whose new contents were there before."""
        there = {}
        found = []
        for place in range(self.many):
            for contents in self.brings[place]:
                there[contents] = True
            if place in self.takes:
                new = self.takes[place][1]
                if new in there:
                    found.append(place)
                there[new] = True
        return found

    def plan_for(self, joins):
        """The places of the copies if just these puts join, None if the store then lacks what it must have."""
        frames = {contents: 0 for contents in self.moved}
        plan = []
        for place, brought in self.events:
            for contents in brought:
                frames[contents] += 1
            if place not in self.takes:
                continue
            old, new = self.takes[place]
            if place in joins:
                if frames[new] == 0:
                    return None
                continue
            if frames[old] == 1 and old in self.wanted[place + 1]:
                plan.append(place)
            else:
                frames[old] -= 1
            frames[new] += 1
        return plan


def moved_contents(takes):
    """The contents of which frames can be taken, or can be made of taken ones."""
    found = {}
    for old, new in takes.values():
        found[old] = True
        found[new] = True
    return found
