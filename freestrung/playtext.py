"""The lines of a play."""

from freestrung.casts import Cast
from freestrung.lines import words_at
from freestrung.plans import MOST_ENDS, Plan
from freestrung.plays import Play
from freestrung.scenes import Book
from freestrung.scenetext import book_parts, write_book

OPENING = (
    "opening",
    "opening NAME FACE",
    "opening NAME FACE NAME FACE",
    "opening NAME FACE NAME FACE NAME FACE",
    "opening NAME FACE NAME FACE NAME FACE NAME FACE",
)
FIRST = ("first NAME",)
CALL = ("call NAME NAME NAME",)
FACES = ("front", "back")


def ends_patterns():
    """The patterns of the line of the ends."""
    return tuple("ends" + " NAME" * (many + 1) for many in range(MOST_ENDS))


def write_play(play):
    """The lines of a play."""
    row, faces = play.opening
    pairs = [f"{name} {FACES[face]}" for name, face in zip(row, faces)]
    lines = [
        " ".join(["opening"] + pairs),
        f"first {play.plan.first}",
        " ".join(("ends",) + play.plan.ends),
    ]
    calls = [" ".join(("call",) + call) for call in play.plan.calls]
    return write_book(play.book) + tuple(lines + calls)


def read_opening(words):
    """The picture that the words of an opening tell."""
    return words[1::2], tuple([FACES.index(word) for word in words[2::2]])


def read_play(lines):
    """The play of some lines."""
    puppets, scenes, at = book_parts(lines, OPENING)
    opening = read_opening(words_at(lines, at, OPENING))
    first = words_at(lines, at + 1, FIRST)[1]
    ends = words_at(lines, at + 2, ends_patterns())[1:]
    calls = [words_at(lines, place, CALL)[1:] for place in range(at + 3, len(lines))]
    book = Book(Cast(puppets), scenes)
    return Play(book, Plan(first, ends, calls), opening)
