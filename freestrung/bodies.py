"""Bodies of scenes: rows of statements, some of which have bodies again."""

from freestrung.forms import is_row, is_within
from freestrung.patterns import matches_one

SIMPLE = (
    "pass NAME SIDE WAY",
    "turn NAME SHOULDER",
    "move NAME NAME",
    "exit NAME WAY",
    "enter NAME SIDE",
    "rest",
    "call NAME",
)
TESTS = ("on NAME", "off NAME", "front NAME", "back NAME", "left NAME NAME")

# How many things each kind of statement with bodies has; the bodies come behind the first two.
BLOCKS = {"repeat": 3, "until": 3, "if": 4}

MOST_DEEP = 20
MOST_TIMES = 4


def is_block(thing):
    """Whether a tuple has the form of a statement with bodies, whatever stands in these."""
    if len(thing) == 0 or not isinstance(thing[0], str) or thing[0] not in BLOCKS:
        return False
    if len(thing) != BLOCKS[thing[0]]:
        return False
    if thing[0] == "repeat":
        return is_within(thing[1], 1, MOST_TIMES)
    return matches_one(TESTS, thing[1])


def is_statement(thing, deep):
    """Whether a thing is a statement that may stand in so many bodies."""
    if deep > MOST_DEEP or not is_row(thing):
        return False
    if matches_one(SIMPLE, thing):
        return True
    return is_block(thing) and all([is_body(body, deep + 1) for body in thing[2:]])


def is_body(thing, deep):
    """Whether a thing is a body whose statements stand in so many bodies, this one counted."""
    return is_row(thing) and all([is_statement(statement, deep) for statement in thing])


def bodies_of(statement):
    """The bodies in a statement."""
    return statement[2:] if statement[0] in BLOCKS else ()


def kept_statement(statement):
    """The statement as tuples."""
    if statement[0] not in BLOCKS:
        return tuple(statement)
    about = statement[1] if statement[0] == "repeat" else tuple(statement[1])
    return (statement[0], about) + tuple([kept_body(body) for body in bodies_of(statement)])


def kept_body(body):
    """The body as tuples."""
    return tuple([kept_statement(statement) for statement in body])


def all_statements(body):
    """All statements of a body in the order in which they are written, each ahead of those in it."""
    found = []
    for statement in body:
        found.append(statement)
        for inner in bodies_of(statement):
            found.extend(all_statements(inner))
    return found


def called_in(body):
    """The names of the scenes that a body calls, in the order in which they are written."""
    return [statement[1] for statement in all_statements(body) if statement[0] == "call"]


def puppets_in(statement):
    """The names in a statement that must be puppets of the cast."""
    if statement[0] in ("repeat", "call"):
        return ()
    if statement[0] in ("if", "until"):
        return statement[1][1:]
    return statement[1:2]


def unknown_in(statement, cast, scenes):
    """The first name in a statement, without those in its bodies, that is not there, or None."""
    for name in puppets_in(statement):
        if name not in cast:
            return name
    if statement[0] == "move" and statement[2] not in cast[statement[1]]:
        return statement[2]
    if statement[0] == "call" and statement[1] not in scenes:
        return statement[1]
    return None
