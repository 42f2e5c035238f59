"""Free cords: those that hang apart when they are led to an end of the row."""

from freestrung.errors import BadPlace, Uneven
from freestrung.forms import is_within
from freestrung.lies import judge_way
from freestrung.tangles import crossed_above, crossed_below, other_way


def judge_even(lie):
    """Raises Uneven for a lie that is not even."""
    if not lie.even:
        raise Uneven(lie.tops)


def judge_led(lie, place, way):
    """Raises what is due for a cord that cannot be led in a way."""
    judge_even(lie)
    if not is_within(place, 0, len(lie) - 1):
        raise BadPlace(place)
    judge_way(way)


def passings_to_end(cords, place, way, side):
    """The passings by which a cord is led to an end: places, each with the way of the left one of the two."""
    if side == "left":
        return [(here, other_way(way)) for here in range(place - 1, -1, -1)]
    return [(here, way) for here in range(place, cords - 1)]


def led_to_end(lie, place, way, side="left"):
    """The lie when the cord of a place is led to an end of the row."""
    judge_led(lie, place, way)
    for here, left_way in passings_to_end(len(lie), place, way, side):
        lie = lie.passed(here, left_way, left_way)
    return lie


def is_apart(words, side):
    """Whether the cord at an end of the row hangs apart."""
    if len(words) == 0:
        return False
    place, others = (0, words[1:]) if side == "left" else (len(words) - 1, words[:-1])
    return words[place] == (place + 1,) and not any([abs(letter) == place + 1 for word in others for letter in word])


def hangs_apart(lie, side):
    """Whether the cord at an end of the row hangs apart."""
    judge_even(lie)
    return is_apart(lie.words, side)


def is_free_cord(words, place, way):
    """Whether a cord of an even lie is free in a way."""
    # Both ends tell the same; the nearer one keeps the words short.
    side = "left" if place < len(words) - 1 - place else "right"
    for here, left_way in passings_to_end(len(words), place, way, side):
        words = crossed_below(crossed_above(words, here, left_way), here, left_way)
    return is_apart(words, side)


def is_free(lie, place, way):
    """Whether the cord of a place is free in a way."""
    judge_led(lie, place, way)
    return is_free_cord(lie.words, place, way)
