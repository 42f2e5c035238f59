"""Deeds, and the rows of puppets that they can be done in."""

from freestrung.patterns import matches_one

DEEDS = (
    "pass NAME NAME SIDE WAY",
    "turn NAME SHOULDER",
    "move NAME NAME",
    "exit NAME WAY",
    "enter NAME SIDE",
    "rest",
)

MOST_IN_ROW = 4


def is_deed(thing):
    """Whether a thing is a deed, whoever has its names."""
    return matches_one(DEEDS, thing)


def neighbour(row, puppet, side):
    """The neighbour of a puppet on a side, or None if there is none."""
    if puppet not in row:
        return None
    place = row.index(puppet) + (1 if side == "right" else -1)
    return row[place] if 0 <= place < len(row) else None


def fits_row(row, deed):
    """Whether a deed can be done in a row of puppets."""
    if deed[0] == "rest":
        return True
    if deed[0] == "enter":
        return deed[1] not in row and len(row) < MOST_IN_ROW
    if deed[0] == "pass":
        return neighbour(row, deed[1], deed[3]) == deed[2]
    return deed[1] in row
