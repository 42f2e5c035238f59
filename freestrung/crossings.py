"""The crossings of a lie, and how it is unwound."""

from freestrung.lies import Lie
from freestrung.tangles import crossed_below, other_way, unwinding_row


def crossings(lie):
    """The row of crossings of a lie, which makes it."""
    return tuple([(place, other_way(way)) for place, way in unwinding_row(lie.words)[::-1]])


def unwinding(lie):
    """The lies that come about when a lie is unwound, from itself to the straight one."""
    words = lie.words
    yield lie
    for place, way in unwinding_row(words):
        words = crossed_below(words, place, way)
        yield Lie(words)
