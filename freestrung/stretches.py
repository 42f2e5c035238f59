"""Stretches of deeds that no hands cover, and how many players are needed."""

from freestrung.covers import Cover, layers_along
from freestrung.deeds import kept_deeds
from freestrung.hands import Hands, rows_along

MOST_PLAYERS = 4


def stuck_from(hands, rows, deeds, first):
    """The last deed of the shortest stretch from a deed on that no hands cover; beyond all deeds if there is none."""
    layers = layers_along(hands, rows[first], deeds[first:], None)
    if () in layers:
        return first + len(layers) - 1
    return len(deeds)


def stretches(crew, row, deeds):
    """The least stretches that no hands cover."""
    kept = kept_deeds(row, deeds)
    hands = Hands(crew)
    rows = rows_along(tuple(row), kept)
    lasts = [stuck_from(hands, rows, kept, first) for first in range(len(kept))]
    # A stretch is no least one if it still is not covered without its first deed.
    nexts = lasts[1:] + [len(kept)]
    return tuple([(first, last) for first, (last, other) in enumerate(zip(lasts, nexts)) if last < other])


def fewest_players(crew, row, deeds):
    """The least number of players with which a crew covers deeds, or None."""
    for players in range(1, MOST_PLAYERS + 1):
        if Cover(crew.changed(players=players), row, deeds):
            return players
    return None
