"""Deeds, and the rows of puppets that they can be done in."""

from freestrung.errors import BadDeeds
from freestrung.forms import is_row
from freestrung.patterns import matches_one
from freestrung.rows import exchanged, lengthened, without

DEEDS = (
    "pass NAME NAME SIDE WAY",
    "turn NAME SHOULDER",
    "move NAME NAME",
    "exit NAME WAY",
    "enter NAME SIDE",
    "rest",
)

MOST_IN_ROW = 4
MOST_DEEDS = 60


def is_deed(thing):
    """Whether a thing is a deed, whoever has its names."""
    return matches_one(DEEDS, thing)


def neighbour(row, puppet, side):
    """The neighbour of a puppet on a side, or None if there is none."""
    if puppet not in row:
        return None
    place = row.index(puppet) + (1 if side == "right" else -1)
    return row[place] if 0 <= place < len(row) else None


def fits_row(row, deed):
    """Whether a deed can be done in a row of puppets."""
    if deed[0] == "rest":
        return True
    if deed[0] == "enter":
        return deed[1] not in row and len(row) < MOST_IN_ROW
    if deed[0] == "pass":
        return neighbour(row, deed[1], deed[3]) == deed[2]
    return deed[1] in row


def passed_at(row, deed):
    """The place of the left one of the two puppets that a pass exchanges."""
    place = row.index(deed[1])
    return place - 1 if deed[3] == "left" else place


def led_along(row, deed, things, entering):
    """What belongs to the puppets of a row, as a deed leaves it; a puppet that enters brings its own."""
    if deed[0] == "pass":
        return exchanged(things, passed_at(row, deed))
    if deed[0] == "exit":
        return without(things, row.index(deed[1]))
    if deed[0] == "enter":
        return lengthened(things, deed[2], entering)
    return things


def row_behind(row, deed):
    """The row of puppets behind a deed that fits it."""
    return led_along(row, deed, row, deed[1] if deed[0] == "enter" else None)


def kept_deeds(row, deeds):
    """The deeds as tuples; raises BadDeeds if they cannot be done one after the other from this row on."""
    if not is_row(deeds) or len(deeds) > MOST_DEEDS:
        raise BadDeeds(-1)
    row = tuple(row)
    for number, deed in enumerate(deeds):
        if not is_deed(deed) or not fits_row(row, deed):
            raise BadDeeds(number)
        row = row_behind(row, deed)
    return tuple(tuple(deed) for deed in deeds)
