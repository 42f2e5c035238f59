"""Flows: the rows of deeds that scenes come to."""

from freestrung.bodies import BLOCKS
from freestrung.deeds import MOST_DEEDS, fits_row, neighbour
from freestrung.errors import BadPicture, TooLong, Unknown
from freestrung.pictures import holds_in, is_picture, kept_picture, picture_after

MOST_COUNTS = 300
MOST_WRITTEN = 2000


class Flow:
    """A row of deeds, the picture that it leaves, and the word that tells how it ended."""

    def __init__(self, deeds, picture, ended):
        self.deeds = deeds
        self.picture = picture
        self.ended = ended

    def __len__(self):
        return len(self.deeds)

    def __iter__(self):
        return iter(self.deeds)

    def __eq__(self, other):
        return (isinstance(other, Flow) and self.deeds == other.deeds
                and self.picture == other.picture and self.ended == other.ended)

    def __bool__(self):
        return bool(self.ended == "ends")


def begun(body):
    """What is to be done to do a body, the last first: each statement with the pictures it has looked in."""
    return [(statement, ()) for statement in body[::-1]]


def deed_of(statement, row):
    """The deed that a statement tells in a row; it fits no picture if it lacks a neighbour."""
    if statement[0] != "pass":
        return statement
    _, puppet, side, way = statement
    return ("pass", puppet, neighbour(row, puppet, side), side, way)


def body_due(book, picture, statement):
    """What a call, a repeat or an if puts in its place."""
    if statement[0] == "call":
        return book[statement[1]]
    if statement[0] == "repeat":
        return statement[2] * statement[1]
    return statement[2] if holds_in(picture, statement[1]) else statement[3]


def flow(book, scene, picture):
    """The flow of a scene from a picture."""
    if scene not in book:
        raise Unknown(scene)
    if not is_picture(picture, book.cast):
        raise BadPicture(picture)
    picture = kept_picture(picture)
    deeds = []
    todo = begun(book[scene])
    for _ in range(MOST_COUNTS):
        if len(todo) == 0:
            break
        statement, looks = todo.pop()
        if statement[0] == "until":
            if holds_in(picture, statement[1]):
                continue
            if picture in looks:
                return Flow(tuple(deeds), picture, "round")
            todo.append((statement, looks + (picture,)))
            todo.extend(begun(statement[2]))
        elif statement[0] in BLOCKS or statement[0] == "call":
            todo.extend(begun(body_due(book, picture, statement)))
        else:
            deed = deed_of(statement, picture[0])
            if None in deed or not fits_row(picture[0], deed):
                return Flow(tuple(deeds), picture, "spoilt")
            if len(deeds) == MOST_DEEDS:
                return Flow(tuple(deeds), picture, "long")
            deeds.append(deed)
            picture = picture_after(picture, deed)
    return Flow(tuple(deeds), picture, "long" if len(todo) > 0 else "ends")


def size_of(body, sizes):
    """How many statements a body has when it is written out; `sizes` has those of the scenes it calls."""
    size = 0
    for statement in body:
        if statement[0] == "call":
            size = size + sizes[statement[1]]
        elif statement[0] == "repeat":
            size = size + statement[1] * size_of(statement[2], sizes)
        elif statement[0] in BLOCKS:
            size = size + 1 + sum([size_of(inner, sizes) for inner in statement[2:]])
        else:
            size = size + 1
    return size


def written_body(body, bodies):
    """The body written out; `bodies` has those of the scenes it calls, written out."""
    written = []
    for statement in body:
        if statement[0] == "call":
            written.extend(bodies[statement[1]])
        elif statement[0] == "repeat":
            written.extend(written_body(statement[2], bodies) * statement[1])
        elif statement[0] in BLOCKS:
            parts = [written_body(inner, bodies) for inner in statement[2:]]
            written.append(statement[:2] + tuple(parts))
        else:
            written.append(statement)
    return tuple(written)


def written_out(book, scene):
    """The body of a scene with calls put in place and repeats written out."""
    # A scene calls more scenes than each of those it calls, so these come ahead of it.
    ordered = sorted([(len(book.calls_of(name)), name) for name in book.calls_of(scene) + (scene,)])
    sizes = {}
    for _, name in ordered:
        sizes[name] = size_of(book[name], sizes)
    if sizes[scene] > MOST_WRITTEN:
        raise TooLong(sizes[scene])
    bodies = {}
    for _, name in ordered:
        bodies[name] = written_body(book[name], bodies)
    return bodies[scene]
