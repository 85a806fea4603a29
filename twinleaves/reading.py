"""Scripts out of their texts."""

from twinleaves.checks import is_between, is_word
from twinleaves.errors import BadText
from twinleaves.scripts import LIMITS, MOST_CELLS, MOST_LEAVES, MOST_STEPS, MOST_TERMS, RIGHTS, SHAPES, Script

LETTER = "letter"
FIGURE = "figure"
BLANK = "blank"
SIGN = "sign"


def kind_of(sign):
    """What a sign of a line is."""
    if "a" <= sign <= "z":
        return LETTER
    if "0" <= sign <= "9":
        return FIGURE
    return BLANK if sign == " " else SIGN


def pieces_of(row):
    """The words, numbers and signs of a line, each with its column."""
    pieces = []
    last = BLANK
    start = 0
    # The blank behind the line ends its last piece.
    for at, sign in enumerate(row + " "):
        kind = kind_of(sign)
        if kind == last and kind != SIGN:
            continue
        if last != BLANK:
            pieces.append((row[start:at], start + 1))
        last = kind
        start = at
    return pieces


def is_figures(piece):
    """Whether a piece of a line is a number without zeros in front."""
    return piece == "0" or "1" <= piece[:1] <= "9"


class Line:
    """A line that is read from left to right."""

    def __init__(self, place, row):
        self.place = place
        self.pieces = pieces_of(row)
        self.behind = len(row) + 1
        self.at = 0

    def next_piece(self):
        """The next piece, or no signs at the end of the line."""
        if self.at == len(self.pieces):
            return ""
        return self.pieces[self.at][0]

    def take(self, fit):
        """The next piece, which must fit."""
        piece = self.next_piece()
        if not fit:
            raise BadText(self.place, self.spot())
        self.at += 1
        return piece

    def spot(self):
        """The column of the next piece, or that behind the line."""
        if self.at == len(self.pieces):
            return self.behind
        return self.pieces[self.at][1]

    def take_word(self):
        """The next piece, a word."""
        return self.take(is_word(self.next_piece()))

    def take_mark(self, told):
        """The next piece, which must be one that is told."""
        self.take(self.next_piece() == told)

    def take_one_of(self, told):
        """The next piece, which must be one of those that are told."""
        return self.take(self.next_piece() in told)

    def take_number(self, low, high):
        """The next piece, a number within limits."""
        piece = self.next_piece()
        return int(self.take(is_figures(piece) and len(piece) < 4 and is_between(int(piece), low, high)))

    def take_figures(self):
        """The next piece, a number without limits."""
        return int(self.take(is_figures(self.next_piece())))

    def finish(self):
        """There must be no next piece."""
        if self.at < len(self.pieces):
            raise BadText(self.place, self.spot())


def read_script(told):
    """The script of a text."""
    if not isinstance(told, str):
        raise BadText(0, 0)
    lines = lines_of(told)
    if len(lines) == 0:
        raise BadText(1, 1)
    leaves, cells = read_layout(lines[0])
    steps = []
    for line in lines[1:]:
        if len(steps) == MOST_STEPS:
            raise BadText(line.place, line.spot())
        steps.append(read_step(line))
    return Script(leaves, cells, steps)


def lines_of(told):
    """The lines of a text but for those that are left out."""
    return [Line(1 + at, row) for at, row in enumerate(told.split("\n")) if not is_left_out(row)]


def is_left_out(row):
    """Whether a line has blanks alone, or a remark."""
    bare = row.strip(" ")
    return bare == "" or bare[0] == "#"


def read_layout(line):
    """The numbers of leaves and of cells."""
    line.take_mark("space")
    leaves = line.take_number(1, MOST_LEAVES)
    line.take_mark("leaves")
    cells = line.take_number(1, MOST_CELLS)
    line.take_mark("cells")
    line.finish()
    return leaves, cells


def read_step(line):
    """The step of a line."""
    kind = line.take(line.next_piece() in SHAPES)
    step = [kind]
    for part in SHAPES[kind]:
        step.append(read_part(line, part, step))
    line.finish()
    return tuple(step)


def read_part(line, part, step):
    """The next part of a step, of which the parts ahead are told."""
    if part == "word":
        return line.take_word()
    if part == "rights":
        return line.take_one_of(RIGHTS)
    if part == "way":
        return read_way(line, step[-1])
    if part == "total":
        return read_total(line)
    if part == "cell":
        line.take_mark(".")
    if part == "goal":
        line.take_mark("to")
    low, high = LIMITS[part]
    return line.take_number(low, high)


def read_way(line, many):
    """The way in which so many leaves are mapped."""
    way = line.take_one_of(("zero", "apart", "common"))
    if way == "zero":
        return (way,)
    word = line.take_word()
    return (way, word, line.take_number(0, MOST_LEAVES - many))


def read_total(line):
    """The terms behind the sign of a put."""
    line.take_mark("=")
    terms = [read_term(line, read_sign(line))]
    while line.next_piece() in ("+", "-") and len(terms) < MOST_TERMS:
        factor = -1 if line.take_one_of(("+", "-")) == "-" else 1
        terms.append(read_term(line, factor))
    return tuple(terms)


def read_sign(line):
    """1, or -1 if there is a sign for it, which is left behind."""
    if line.next_piece() != "-":
        return 1
    line.take_mark("-")
    return -1


def read_term(line, factor):
    """A term with 1 or -1 for the sign in front of it."""
    if is_figures(line.next_piece()):
        factor = factor * line.take_figures()
        if not is_word(line.next_piece()):
            return ("number", factor)
    word = line.take_word()
    if not is_figures(line.next_piece()):
        return ("input", word, factor)
    leaf = read_part(line, "number", [])
    cell = read_part(line, "cell", [])
    return ("cell", word, leaf, cell, factor)
