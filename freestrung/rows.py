"""Rows from left to right, of puppets or of what belongs to them, changed by a deed."""


def exchanged(row, place):
    """The row with the things at a place and at the next one exchanged."""
    return row[:place] + (row[place + 1], row[place]) + row[place + 2:]


def replaced(row, place, thing):
    """The row with another thing at a place."""
    return row[:place] + (thing,) + row[place + 1:]


def without(row, place):
    """The row without the thing at a place."""
    return row[:place] + row[place + 1:]


def lengthened(row, side, thing):
    """The row with one thing more at an end."""
    if side == "left":
        return (thing,) + row
    return row + (thing,)
