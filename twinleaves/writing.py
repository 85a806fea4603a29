"""Texts of scripts."""

from twinleaves.scripts import SHAPES, judge_script


def write_script(script):
    """The text of a script."""
    judge_script(script)
    rows = [f"space {script.leaves} leaves {script.cells} cells"]
    for step in script:
        rows.append(written_step(step))
    return "".join([row + "\n" for row in rows])


def written_step(step):
    """The line of a step."""
    row = step[0]
    for at, part in enumerate(SHAPES[step[0]]):
        row = row + written_part(part, step[1 + at])
    return row


def written_part(part, told):
    """A part of a step, with what stands between it and the part ahead."""
    if part == "cell":
        return f".{told}"
    if part == "goal":
        return f" to {told}"
    if part == "way":
        return "".join([f" {piece}" for piece in told])
    if part == "total":
        return " =" + written_total(told)
    return f" {told}"


def written_total(total):
    """The terms of a total with their signs, each with a blank in front."""
    row = ""
    for at, term in enumerate(total):
        if term[-1] < 0:
            row = row + " -"
        elif at > 0:
            row = row + " +"
        row = row + " " + written_term(term)
    return row


def written_term(term):
    """A term without its sign."""
    size = abs(term[-1])
    if term[0] == "number":
        return str(size)
    front = "" if size == 1 else f"{size} "
    if term[0] == "input":
        return front + term[1]
    return f"{front}{term[1]} {term[2]}.{term[3]}"
