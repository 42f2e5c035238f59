"""Exits and cores: which cords can leave a lie, and which cannot."""

from freestrung.errors import BadRow
from freestrung.forms import is_one_of, is_row, is_within
from freestrung.free import is_free_cord, judge_even
from freestrung.tangles import WAYS, thinned_words


def first_exit(lie, left):
    """The first of the cords that are left that is free, with the way; None if none is."""
    words = thinned_words(lie.words, left)
    for number, place in enumerate(left):
        for way in WAYS:
            if is_free_cord(words, number, way):
                return place, way
    return None


def left_and_exits(lie):
    """The places of the cords that cannot leave, and the exits of the others."""
    judge_even(lie)
    left = tuple(range(len(lie)))
    found = []
    leaving = first_exit(lie, left)
    while leaving is not None:
        found.append(leaving)
        left = tuple([place for place in left if place != leaving[0]])
        leaving = first_exit(lie, left)
    return left, tuple(found)


def exits(lie):
    """The cords that leave one after the other, each with its way, until none is free."""
    return left_and_exits(lie)[1]


def core(lie):
    """The places of the cords that cannot leave."""
    return left_and_exits(lie)[0]


def is_exit(thing, cords):
    """Whether a thing is a pair of a place of so many cords and a way."""
    if not is_row(thing) or len(thing) != 2:
        return False
    return is_within(thing[0], 0, cords - 1) and is_one_of(thing[1], WAYS)


def judge_exits(lie, row):
    """Raises BadRow for what are no exits of different cords."""
    if not is_row(row):
        raise BadRow(-1)
    gone = []
    for number, leaving in enumerate(row):
        if not is_exit(leaving, len(lie)) or leaving[0] in gone:
            raise BadRow(number)
        gone.append(leaving[0])


def can_leave(lie, row):
    """Whether these cords can leave in this order and in these ways."""
    judge_even(lie)
    judge_exits(lie, row)
    left = list(range(len(lie)))
    for place, way in row:
        if not is_free_cord(thinned_words(lie.words, left), left.index(place), way):
            return False
        left.remove(place)
    return True
