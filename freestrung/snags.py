"""Snags: sets of cords that do not hang straight, and which cords are to be hung anew."""

from freestrung.free import judge_even
from freestrung.lies import judge_places
from freestrung.tangles import straight_words, thinned_words


def is_straight_alone(lie, places):
    """Whether the cords of some places hang straight by themselves."""
    return thinned_words(lie.words, places) == straight_words(len(places))


def others_of(lie, places):
    """The places of all other cords."""
    return tuple([place for place in range(len(lie)) if place not in places])


def sets_of(cords):
    """All sets of so many cords, by the number of cords in them, then as tuples."""
    found = [()]
    for place in range(cords):
        found = found + [places + (place,) for places in found]
    return [places for _, places in sorted([(len(places), places) for places in found])]


def is_snag(lie, places):
    """Whether cords do not hang straight by themselves, while those of each smaller part do."""
    if is_straight_alone(lie, places):
        return False
    parts = [tuple([place for place in places if place != left_out]) for left_out in places]
    return all([is_straight_alone(lie, part) for part in parts])


def hangs_straight(lie, places):
    """Whether the cords of some places hang straight by themselves."""
    judge_even(lie)
    judge_places(len(lie), places)
    return is_straight_alone(lie, places)


def snags(lie):
    """All snags of a lie."""
    judge_even(lie)
    return tuple([places for places in sets_of(len(lie)) if is_snag(lie, places)])


def hung_anew(lie):
    """All sets with the fewest cords that free a lie when these are hung anew."""
    judge_even(lie)
    freeing = [places for places in sets_of(len(lie)) if is_straight_alone(lie, others_of(lie, places))]
    return tuple([places for places in freeing if len(places) == len(freeing[0])])


def frees(lie, places):
    """Whether the cords of some places, hung anew, free a lie."""
    judge_even(lie)
    judge_places(len(lie), places)
    return is_straight_alone(lie, others_of(lie, places))
