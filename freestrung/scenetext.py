"""The lines of a book."""

from freestrung.bodies import SIMPLE, TESTS
from freestrung.casts import Cast
from freestrung.lines import words_at
from freestrung.scenes import Book

PUPPET = ("puppet NAME NAME", "puppet NAME NAME NAME", "puppet NAME NAME NAME NAME")
SCENE = ("scene NAME",)
END = ("end",)
END_OR_ELSE = ("end", "else")


def beginnings():
    """The patterns of the lines with which a statement begins."""
    tests = tuple(f"{word} {test}" for word in ("if", "until") for test in TESTS)
    return SIMPLE + ("repeat TIMES",) + tests


def statement_lines(statement):
    """The lines of a statement."""
    if statement[0] == "repeat":
        return [f"repeat {statement[1]}"] + body_lines(statement[2]) + ["end"]
    if statement[0] not in ("if", "until"):
        return [" ".join(statement)]
    lines = [" ".join((statement[0],) + statement[1])] + body_lines(statement[2])
    if statement[0] == "if" and len(statement[3]) > 0:
        lines = lines + ["else"] + body_lines(statement[3])
    return lines + ["end"]


def body_lines(body):
    """The lines of a body."""
    lines = []
    for statement in body:
        lines.extend(statement_lines(statement))
    return lines


def write_book(book):
    """The lines of a book."""
    lines = [" ".join(("puppet", name) + joints) for name, joints in book.cast.puppets]
    for name, body in book.scenes:
        lines.extend([f"scene {name}"] + body_lines(body) + ["end"])
    return tuple(lines)


def body_at(lines, at, enders):
    """The body that begins at a line, and the number of the line that ends it."""
    body = []
    words = words_at(lines, at, beginnings() + enders)
    while words[0] not in END_OR_ELSE:
        statement, at = statement_at(lines, at, words)
        body.append(statement)
        words = words_at(lines, at, beginnings() + enders)
    return tuple(body), at


def statement_at(lines, at, words):
    """The statement that begins at a line, and the number of the line behind it."""
    if words[0] == "if":
        return if_at(lines, at, words[1:])
    if words[0] not in ("repeat", "until"):
        return words, at + 1
    about = int(words[1]) if words[0] == "repeat" else words[1:]
    body, last = body_at(lines, at + 1, END)
    return (words[0], about, body), last + 1


def if_at(lines, at, test):
    """As statement_at, for an `if` with this test."""
    first, last = body_at(lines, at + 1, END_OR_ELSE)
    second = ()
    if lines[last] == "else":
        # An `end` cannot come here, or a book with an empty second body would have two texts.
        words_at(lines, last + 1, beginnings())
        second, last = body_at(lines, last + 1, END)
    return ("if", test, first, second), last + 1


def book_parts(lines, behind):
    """The puppets, the scenes, and the number of the line behind them, which may have these patterns."""
    puppets = []
    scenes = []
    at = 0
    while at < len(lines):
        words = words_at(lines, at, (PUPPET if len(scenes) == 0 else ()) + SCENE + behind)
        if words[0] == "puppet":
            puppets.append((words[1], words[2:]))
            at += 1
        elif words[0] == "scene":
            body, last = body_at(lines, at + 1, END)
            scenes.append((words[1], body))
            at = last + 1
        else:
            break
    return puppets, scenes, at


def read_book(lines):
    """The book of some lines."""
    puppets, scenes, _ = book_parts(lines, ())
    return Book(Cast(puppets), scenes)
