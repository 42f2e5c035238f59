"""Cords with their wires: lies of cords strung with wires, and unstrung again."""

from freestrung.crossings import crossings
from freestrung.errors import BadWinds, BadWires, TooMany
from freestrung.forms import is_row, is_whole, is_within
from freestrung.lies import Lie
from freestrung.rows import exchanged
from freestrung.tangles import MOST_CORDS

MOST_WIRES = 3
MOST_WIND = 3

# For each number of wires the places, from that of the first wire on, of the crossings of half a turn.
HALF_TURNS = {1: (), 2: (0,), 3: (0, 1, 0)}


def judge_wires(wires):
    """Raises BadWires for the first number of wires that no cord has."""
    for number, many in enumerate(wires):
        if not is_within(many, 1, MOST_WIRES):
            raise BadWires(number)


def judge_winds(winds, cords):
    """Raises BadWinds for what are no winds of so many cords."""
    if not is_row(winds) or len(winds) != cords:
        raise BadWinds(-1)
    for number, wind in enumerate(winds):
        if not is_within(wind, -MOST_WIND, MOST_WIND):
            raise BadWinds(number)


def bundles_crossed(start, left, right, way):
    """The crossings of so many wires, which begin at a place, with so many to the right of them."""
    return [(start + wire + other, way) for wire in range(left - 1, -1, -1) for other in range(right)]


def bundle_wound(start, many, wind):
    """The crossings by which so many wires, which begin at a place, are wound."""
    way = "before" if wind > 0 else "behind"
    return [(start + place, way) for place in HALF_TURNS[many]] * abs(wind)


def crossings_of_wires(lie, wires, winds):
    """The crossings of the single wires when the cords of a lie are strung with them."""
    found = []
    order = tuple(range(len(wires)))
    for place, way in crossings(lie):
        start = sum([wires[cord] for cord in order[:place]])
        found.extend(bundles_crossed(start, wires[order[place]], wires[order[place + 1]], way))
        order = exchanged(order, place)
    start = 0
    for cord in order:
        found.extend(bundle_wound(start, wires[cord], winds[cord]))
        start = start + wires[cord]
    return tuple(found)


def strung(lie, wires, winds=None):
    """The lie of the single wires of cords, told by numbers of wires and winds for the places above."""
    if not is_row(wires) or len(wires) != len(lie):
        raise BadWires(-1)
    judge_wires(wires)
    if sum(wires) > MOST_CORDS:
        raise TooMany("wire")
    if winds is None:
        winds = (0,) * len(lie)
    judge_winds(winds, len(lie))
    return Lie.of(sum(wires), crossings_of_wires(lie, wires, winds))


def first_wires(wires):
    """The place above of the first wire of each cord."""
    return tuple([sum(wires[:number]) for number in range(len(wires))])


def twist_of_wires(lie, first, many):
    """The twist of the first two of so many wires, which is how often their cord is wound."""
    return 0 if many == 1 else lie.twist(first, first + 1)


def unstrung(lie, wires):
    """The lie of cords and the winds of which a lie of wires is the strung one, or None."""
    if not is_row(wires) or (all([is_whole(many) for many in wires]) and sum(wires) != len(lie)):
        raise BadWires(-1)
    judge_wires(wires)
    places = first_wires(wires)
    cords = lie.thinned(places)
    winds = tuple([twist_of_wires(lie, first, many) for first, many in zip(places, wires)])
    if Lie.of(len(lie), crossings_of_wires(cords, wires, winds)) != lie:
        return None
    return cords, winds
