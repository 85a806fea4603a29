"""Which gaps between touches are best kept in few frames: units that go along a line of places, or over gaps."""

from heapq import heappop, heappush


def gaps_of(touches):
    """The ascending list of the pairs of places of neighbouring touches of one leaf."""
    last, gaps = {}, []
    for place, leaf in enumerate(touches):
        if leaf in last:
            gaps.append((last[leaf], place))
        last[leaf] = place
    return sorted(gaps)


class Track:
    """Units that go from the first place to behind the last one; a gap carries one, from behind its first touch.

    Each unit is a frame beside that of the leaf that is touched. Nodes lie in front of places; a height of a node is
    such that no way is cheaper than the heights of its ends tell.
    """

    def __init__(self, many, gaps, worths):
        self.many = many
        self.worths = {gap: worth for gap, worth in zip(gaps, worths)}
        # Nothing lies between touches that are next to each other: such a gap needs no unit.
        self.kept = {gap: gap[0] + 1 == gap[1] for gap in gaps}
        wide = [gap for gap in gaps if gap[0] + 1 < gap[1]]
        self.begins = {first + 1: (first, last) for first, last in wide}
        self.ends = {last: (first, last) for first, last in wide}
        self.flow = [0 for _ in range(many)]
        self.heights = [0]
        for node in range(1, many + 1):
            self.heights.append(self.height_ahead(node))

    def height_ahead(self, node):
        """The height of a node while no unit goes, by those of the nodes ahead of it."""
        height = self.heights[node - 1]
        if node not in self.ends:
            return height
        gap = self.ends[node]
        return min(height, self.heights[gap[0] + 1] - self.worths[gap])

    def ways_from(self, node):
        """What leads on from a node: triples of a node, the price, and the gap, an empty one along the line."""
        ways = []
        if node < self.many:
            ways.append((node + 1, 0, ()))
        if node > 0 and self.flow[node - 1] > 0:
            ways.append((node - 1, 0, ()))
        if node in self.begins and not self.kept[self.begins[node]]:
            gap = self.begins[node]
            ways.append((gap[1], -self.worths[gap], gap))
        if node in self.ends and self.kept[self.ends[node]]:
            gap = self.ends[node]
            ways.append((gap[0] + 1, self.worths[gap], gap))
        return ways

    def send(self):
        """Let one more unit go, by the cheapest way."""
        found, came = {}, {}
        queue = [(0, 0, 0, ())]
        while len(queue) > 0:
            price, node, before, gap = heappop(queue)
            if node in found:
                continue
            found[node] = price
            came[node] = (before, gap)
            for goal, more, over in self.ways_from(node):
                if goal not in found:
                    slope = more + self.heights[node] - self.heights[goal]
                    heappush(queue, (price + slope, goal, node, over))
        self.heights = [height + found[node] for node, height in enumerate(self.heights)]
        self.go_back(came)

    def go_back(self, came):
        """Let a unit go by the way that is told from its end."""
        node = self.many
        while node > 0:
            before, gap = came[node]
            if gap != ():
                self.kept[gap] = not self.kept[gap]
            elif before < node:
                self.flow[before] += 1
            else:
                self.flow[node] -= 1
            node = before


def best_kept(many, gaps, worths, frames):
    """The gaps that are kept in so many frames, and for each place a time that rules out keeping more."""
    track = Track(many, gaps, worths)
    # With one unit more than gaps, all are kept, and one goes along the whole track.
    for _ in range(min(frames - 1, len(gaps) + 1)):
        track.send()
    times = [high - low for high, low in zip(track.heights, track.heights[1:])]
    return [gap for gap in gaps if track.kept[gap]], times
