"""Journals: the lines of a night, whole or torn."""

from freestrung.crews import Crew
from freestrung.errors import BadCall, BadLine, NotDue, Torn, Unplayable
from freestrung.handlingtext import DO, handling_line, handling_of
from freestrung.lines import words_at
from freestrung.nights import Night
from freestrung.playtext import play_made, play_parts, write_play

CREW = ("crew PLAYERS TO_THREE TO_THREE BEARS TO_THREE",)
ENTRY = ("call NUMBER", "curtain")


def entry_line(entry):
    """The line of an entry of a log."""
    if entry[0] == "do":
        return handling_line(entry[1])
    return " ".join([str(part) for part in entry])


def write_journal(night):
    """The lines of a night."""
    numbers = [str(number) for number in night.crew.numbers]
    entries = [entry_line(entry) for entry in night.log]
    return write_play(night.play) + tuple([" ".join(["crew"] + numbers)] + entries)


def entry_at(lines, at):
    """The entry that a line tells."""
    words = words_at(lines, at, ENTRY + DO)
    if words[0] == "do":
        return ("do", handling_of(words))
    return ("call", int(words[1])) if words[0] == "call" else ("curtain",)


def heading_parts(lines):
    """What the lines of the heading tell of a play and of a crew, and the number of the line behind them."""
    parts, at = play_parts(lines, CREW)
    numbers = [int(word) for word in words_at(lines, at, CREW)[1:]]
    return parts, numbers, at + 1


def night_begun(parts, numbers):
    """The night that a heading tells, at its beginning."""
    play = play_made(parts)
    return Night(play, Crew.of(numbers))


def enter(night, entry):
    """Does in a night what an entry tells."""
    if entry[0] == "call":
        night.call(entry[1])
    elif entry[0] == "do":
        night.do(entry[1])
    else:
        night.curtain()


def read_journal(lines):
    """The night of some lines."""
    parts, numbers, at = heading_parts(lines)
    entries = [entry_at(lines, number) for number in range(at, len(lines))]
    night = night_begun(parts, numbers)
    for entry in entries:
        enter(night, entry)
    return night


def takes(night, lines, at):
    """Does what a line tells, and tells True; False if it cannot be read or the night refuses it."""
    try:
        enter(night, entry_at(lines, at))
    except (BadLine, BadCall, NotDue, Unplayable):
        return False
    return True


def taken_up(lines):
    """The night that the longest good beginning of some lines tells, and the number of lines in it."""
    try:
        parts, numbers, at = heading_parts(lines)
    except BadLine as why:
        raise Torn(why.line) from why
    night = night_begun(parts, numbers)
    while at < len(lines) and takes(night, lines, at):
        at += 1
    return night, at
