"""The lines of a play."""

from freestrung.casts import Cast
from freestrung.lines import words_at
from freestrung.plans import MOST_ENDS, Plan
from freestrung.plays import Play
from freestrung.scenes import Book
from freestrung.scenetext import book_parts, write_book

OPENING = (
    "opening",
    "opening NAME FACE",
    "opening NAME FACE NAME FACE",
    "opening NAME FACE NAME FACE NAME FACE",
    "opening NAME FACE NAME FACE NAME FACE NAME FACE",
)
FIRST = ("first NAME",)
CALL = ("call NAME NAME NAME",)
FACES = ("front", "back")


def ends_patterns():
    """The patterns of the line of the ends."""
    return tuple("ends" + " NAME" * (many + 1) for many in range(MOST_ENDS))


def write_play(play):
    """The lines of a play."""
    row, faces = play.opening
    pairs = [f"{name} {FACES[face]}" for name, face in zip(row, faces)]
    lines = [
        " ".join(["opening"] + pairs),
        f"first {play.plan.first}",
        " ".join(("ends",) + play.plan.ends),
    ]
    calls = [" ".join(("call",) + call) for call in play.plan.calls]
    return write_book(play.book) + tuple(lines + calls)


def read_opening(words):
    """The picture that the words of an opening tell."""
    return words[1::2], tuple([FACES.index(word) for word in words[2::2]])


def calls_at_line(lines, at, behind):
    """The calls that begin at a line, and the number of the line behind them, which may have these patterns."""
    calls = []
    while at < len(lines):
        words = words_at(lines, at, CALL + behind)
        if words[0] != "call":
            break
        calls.append(words[1:])
        at += 1
    return calls, at


def play_parts(lines, behind):
    """What the lines of a play tell, and the number of the line behind them, as for calls_at_line."""
    puppets, scenes, at = book_parts(lines, OPENING)
    opening = read_opening(words_at(lines, at, OPENING))
    first = words_at(lines, at + 1, FIRST)[1]
    ends = words_at(lines, at + 2, ends_patterns())[1:]
    calls, last = calls_at_line(lines, at + 3, behind)
    return (puppets, scenes, opening, first, ends, calls), last


def play_made(parts):
    """The play that some lines tell, once these have been read."""
    puppets, scenes, opening, first, ends, calls = parts
    book = Book(Cast(puppets), scenes)
    return Play(book, Plan(first, ends, calls), opening)


def read_play(lines):
    """The play of some lines."""
    parts, _ = play_parts(lines, ())
    return play_made(parts)
