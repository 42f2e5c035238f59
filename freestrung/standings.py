"""Standings: pictures with all that does not show: how the cords are wound and lie, and what is held."""

from freestrung.deeds import MOST_IN_ROW
from freestrung.errors import BadPicture, BadStanding
from freestrung.forms import are_names, is_row, is_whole, is_within
from freestrung.holds import is_hold, is_lawful, kept_hold
from freestrung.lies import Lie
from freestrung.pictures import are_faces, is_picture, kept_picture
from freestrung.tangles import kept_words, straight_words


def are_winds(thing, many, crew):
    """Whether a thing is a tuple of so many winds, for this crew if it is not None."""
    if not is_row(thing) or len(thing) != many:
        return False
    if crew is None:
        return all([is_whole(wind) for wind in thing])
    return all([is_within(wind, -crew.winds, crew.winds) for wind in thing])


def are_even_words(thing, many, crew):
    """Whether a thing is the words of an even lie of so many cords, for this crew if it is not None."""
    if not Lie.is_one(thing) or len(thing) != many:
        return False
    lie = Lie(thing)
    return lie.even and (crew is None or lie.weight <= crew.bears)


def is_hold_of(thing, row, crew):
    """Whether a thing is a hold with names of a row, lawful for this crew if it is not None."""
    if not is_hold(thing):
        return False
    if crew is None:
        return all([name in row for group in thing for name in group])
    return is_lawful(crew, row, thing)


def wrong_part(thing, crew=None):
    """The word for the first part of a standing that is not as it must be, or None."""
    if not is_row(thing) or len(thing) != 5 or not are_names(thing[0], 0, MOST_IN_ROW):
        return "row"
    row, faces, winds, words, hold = thing
    if not are_faces(faces, len(row)):
        return "faces"
    if not are_winds(winds, len(row), crew):
        return "winds"
    if not are_even_words(words, len(row), crew):
        return "lie"
    return None if is_hold_of(hold, row, crew) else "hold"


def is_standing(thing, crew=None):
    """Whether a thing is a standing, for this crew if one is passed."""
    return wrong_part(thing, crew) is None


def kept_parts(standing):
    """The standing as tuples."""
    row, faces, winds, words, hold = standing
    return tuple(row), tuple(faces), tuple(winds), kept_words(words), kept_hold(hold)


def kept_standing(crew, thing):
    """The standing as tuples; raises BadStanding for what is none for this crew."""
    word = wrong_part(thing, crew)
    if word is not None:
        raise BadStanding(word)
    return kept_parts(thing)


def standing_of(picture):
    """The standing of a picture: nothing is wound, crossed or held."""
    if not is_picture(picture):
        raise BadPicture(picture)
    row, faces = kept_picture(picture)
    return row, faces, (0,) * len(row), straight_words(len(row)), ()


def is_free_standing(standing):
    """Whether the lie of a standing is straight, and no cord is wound."""
    straight = kept_words(standing[3]) == straight_words(len(standing[0]))
    return straight and all([wind == 0 for wind in standing[2]])


def picture_of(standing):
    """The picture of a standing."""
    return kept_picture(standing[:2])


def lie_of(standing):
    """The lie of a standing."""
    return Lie(standing[3])
