"""Tasks and files, as they are behind some steps."""

OWN = "own"
APART = "apart"
COMMON = "common"


class Standing:
    """Tasks with spaces, dicts from leaves to triples, and files, tuples of contents.

    A triple is the way of a leaf, its rights, and its contents, or a pair of a file and its leaf. What cells hold is
    told by sums. Neither a space nor a file is changed in place: several tasks and standings hold them together.
    """

    def __init__(self, leaves, cells, sums):
        self.leaves = leaves
        self.cells = cells
        self.sums = sums
        self.spaces = {}
        self.files = {}

    def twin(self):
        """A standing of its own that is like this one."""
        found = Standing(self.leaves, self.cells, self.sums)
        found.spaces = dict(self.spaces)
        found.files = dict(self.files)
        return found

    def zeros(self):
        """The contents of a new leaf."""
        return (0,) * self.cells

    def record(self, name, leaf):
        """The triple of a task's leaf, None if it is not mapped."""
        return self.spaces.get(name, {}).get(leaf)

    def source(self, name, leaf):
        """The leaf that holds the contents of a task's leaf: itself or a file's; None if it cannot be read."""
        record = self.record(name, leaf)
        if record is None:
            return None
        if record[0] == OWN:
            return ("task", name, leaf)
        word, off = record[2]
        return ("file", word, off) if off < len(self.files[word]) else None

    def is_there(self, source):
        """Whether a task's leaf is there and own, or a file's is there."""
        kind, name, leaf = source
        if kind == "file":
            return leaf < len(self.files.get(name, ()))
        record = self.record(name, leaf)
        return record is not None and record[0] == OWN

    def contents(self, source):
        """The contents of a task's own leaf, or of a file's."""
        kind, name, leaf = source
        return self.files[name][leaf] if kind == "file" else self.spaces[name][leaf][2]

    def cell(self, name, leaf, cell):
        """What a cell holds, None if it is not there or cannot be read."""
        source = self.source(name, leaf)
        if source is None or cell >= self.cells:
            return None
        return self.contents(source)[cell]

    def run(self, name, at, many):
        """The leaves of a run of a task, None if it is not there or not so large."""
        if name not in self.spaces or at + many > self.leaves:
            return None
        return list(range(at, at + many))
