"""Books: a cast with the scenes that it can play."""

from freestrung.bodies import all_statements, called_in, is_body, kept_body, unknown_in
from freestrung.errors import BadBook, BadStatement, Ring, TooLong, Twice, Unknown, Unlike
from freestrung.forms import first_twice, is_row
from freestrung.links import reached
from freestrung.names import is_name

MOST_SCENES = 6
MOST_STATEMENTS = 100


def is_scene(thing):
    """Whether a thing is a pair of a name and a tuple."""
    return is_row(thing) and len(thing) == 2 and is_name(thing[0]) and is_row(thing[1])


def are_scenes(thing):
    """Whether a thing is a tuple of so many scenes as a book has, whatever their bodies are."""
    if not is_row(thing) or not 1 <= len(thing) <= MOST_SCENES:
        return False
    return all([is_scene(scene) for scene in thing])


def kept_scenes(scenes):
    """The scenes as tuples; what a book judges ahead of that is judged here."""
    if not are_scenes(scenes):
        raise BadBook("scenes")
    number = first_twice([name for name, _ in scenes])
    if number is not None:
        raise Twice(scenes[number][0])
    for name, body in scenes:
        if not is_body(body, 1):
            raise BadStatement(name)
    return tuple((name, kept_body(body)) for name, body in scenes)


def judge_names(cast, scenes):
    """Raises Unknown for the first name in the scenes that is not there."""
    names = [name for name, _ in scenes]
    for _, body in scenes:
        for statement in all_statements(body):
            unknown = unknown_in(statement, cast, names)
            if unknown is not None:
                raise Unknown(unknown)


def links_of(scenes):
    """For each scene the names of those that it calls at once."""
    return {name: called_in(body) for name, body in scenes}


class Book:
    """A cast and the scenes that are written for it."""

    def __init__(self, cast, scenes):
        kept = kept_scenes(scenes)
        number = sum([len(all_statements(body)) for _, body in kept])
        if number > MOST_STATEMENTS:
            raise TooLong(number)
        judge_names(cast, kept)
        for name, _ in kept:
            if name in reached(links_of(kept), [name]):
                raise Ring(name)
        self.cast = cast
        self.scenes = kept
        self.names = tuple(name for name, _ in kept)

    def __getitem__(self, at):
        if at not in self:
            raise Unknown(at)
        return self.scenes[self.names.index(at)][1]

    def __contains__(self, x):
        return isinstance(x, str) and x in self.names

    def __len__(self):
        return len(self.scenes)

    def __iter__(self):
        return iter(self.names)

    def __eq__(self, other):
        return isinstance(other, Book) and self.cast == other.cast and self.scenes == other.scenes

    def __add__(self, other):
        if self.cast != other.cast:
            raise Unlike("casts")
        return Book(self.cast, self.scenes + other.scenes)

    def statements(self, name):
        """All statements of a scene as they are written, each ahead of those in it."""
        for statement in all_statements(self[name]):
            yield statement

    def calls_of(self, name):
        """The names of the scenes that a scene calls, directly or through others, ascending."""
        if name not in self:
            raise Unknown(name)
        return tuple(sorted(reached(links_of(self.scenes), [name])))
