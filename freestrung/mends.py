"""Mends of a book, and the fewest with which a crew can play every evening."""

from freestrung.bodies import bodies_of
from freestrung.called import can_play
from freestrung.errors import BadMends, BadMost, TooMany
from freestrung.forms import is_row, is_whole, is_within
from freestrung.houses import Script
from freestrung.scenes import Book
from freestrung.sound import sound_table

MOST_MENDS = 16
MOST_AT_ONCE = 2
OPENED = ("pass", "turn", "exit")


def may_open(statement):
    """Whether a statement has a way that can be opened."""
    return statement[0] in OPENED and statement[-1] != "any"


def possible_mends(book):
    """All possible mends of a book, in order."""
    found = []
    for name in book:
        for number, statement in enumerate(list(book.statements(name))):
            if may_open(statement):
                found.append(("open", name, number))
            found.append(("rest", name, number))
    return tuple(found)


def judge_mends(possible, mends):
    """Raises BadMends for the first of some mends that is none of the possible ones, or is there twice."""
    if not is_row(mends):
        raise BadMends(-1)
    done = []
    for number, mend in enumerate(mends):
        if not is_row(mend) or len(mend) != 3 or not is_whole(mend[2]):
            raise BadMends(number)
        if tuple(mend) not in possible or tuple(mend) in done:
            raise BadMends(number)
        done.append(tuple(mend))


def mended_body(body, at, told):
    """The body of which the first statement has this number, mended; and the number behind its last one."""
    kept = []
    for statement in body:
        if ("rest", at) in told:
            kept.append(("rest",))
        whole = statement
        if ("open", at) in told:
            whole = statement[:-1] + ("any",)
        bodies = bodies_of(whole)
        whole = whole[:len(whole) - len(bodies)]
        at += 1
        for inner in bodies:
            part, at = mended_body(inner, at, told)
            whole = whole + (part,)
        kept.append(whole)
    return tuple(kept), at


def mended_scene(name, body, mends):
    """The scene of this name and body, mended."""
    told = [(word, number) for word, scene, number in mends if scene == name]
    return name, mended_body(body, 0, told)[0]


def mended(book, mends):
    """The book with some mends done at once."""
    judge_mends(possible_mends(book), mends)
    return Book(book.cast, tuple([mended_scene(name, body, mends) for name, body in book.scenes]))


def sets_of_mends(possible, most):
    """All sets of at most so many mends, up to two, by the number of mends in them, then in their order."""
    found = [()] + [(mend,) for mend in possible]
    found.extend([(mend, other) for number, mend in enumerate(possible) for other in possible[number + 1:]])
    return [mends for mends in found if len(mends) <= most]


def fewest_mends(play, crew, most):
    """The fewest mends, at most so many, with which a crew can play every evening, called; None if there are none."""
    sound_table(play)
    if not is_within(most, 0, MOST_AT_ONCE):
        raise BadMost(most)
    possible = possible_mends(play.book)
    if len(possible) > MOST_MENDS:
        raise TooMany("mend")
    for mends in sets_of_mends(possible, most):
        if can_play(Script(play.changed(book=mended(play.book, mends))), crew):
            return mends
    return None
