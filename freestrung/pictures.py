"""Pictures: what the hall sees of the stage, and what deeds make of it."""

from freestrung.deeds import MOST_IN_ROW, fits_row, is_deed, led_along, row_behind
from freestrung.errors import BadDeed
from freestrung.forms import are_names, is_row, is_within
from freestrung.rows import replaced


def are_faces(thing, many):
    """Whether a thing is a tuple of so many faces."""
    if not is_row(thing) or len(thing) != many:
        return False
    return all([is_within(face, 0, 1) for face in thing])


def is_picture(thing, cast=None):
    """Whether a thing is a picture, of this cast if one is passed."""
    if not is_row(thing) or len(thing) != 2 or not are_names(thing[0], 0, MOST_IN_ROW):
        return False
    if not are_faces(thing[1], len(thing[0])):
        return False
    return cast is None or all([name in cast for name in thing[0]])


def kept_picture(picture):
    """The picture as tuples."""
    return tuple(picture[0]), tuple(picture[1])


def rows_of(names, many):
    """All rows of so many of these names, in the order of the names."""
    rows = [()]
    for _ in range(many):
        rows = [row + (name,) for row in rows for name in names if name not in row]
    return rows


def faces_of(many):
    """All rows of so many faces, ascending."""
    rows = [()]
    for _ in range(many):
        rows = [row + (face,) for row in rows for face in (0, 1)]
    return rows


def pictures(cast):
    """All pictures of a cast, in order."""
    for many in range(min(MOST_IN_ROW, len(cast)) + 1):
        for row in rows_of(list(cast), many):
            for faces in faces_of(many):
                yield (row, faces)


def holds_in(picture, test):
    """Whether a test holds in a picture."""
    row, faces = picture
    here = test[1] in row
    if test[0] == "off":
        return not here
    if test[0] == "on" or not here:
        return here
    place = row.index(test[1])
    if test[0] == "left":
        return test[2] in row and place < row.index(test[2])
    return faces[place] == (0 if test[0] == "front" else 1)


def fits(picture, deed):
    """Whether a thing is a deed that fits a picture."""
    return is_deed(deed) and fits_row(picture[0], deed)


def picture_after(picture, deed):
    """The picture behind a deed that fits."""
    row, faces = picture
    if deed[0] == "turn":
        place = row.index(deed[1])
        return row, replaced(faces, place, 1 - faces[place])
    return row_behind(row, deed), led_along(row, deed, faces, 0)


def acted(picture, deed):
    """The picture behind a deed."""
    if not fits(picture, deed):
        raise BadDeed(deed)
    return picture_after(kept_picture(picture), deed)
