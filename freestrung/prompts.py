"""Prompt books: the lines of a crew's table; and prompters, which answer calls by one."""

from freestrung.arena import is_call_at, is_position, position_of
from freestrung.errors import BadCall, BadLine, BadRow, NotThere
from freestrung.handlingtext import DO, handling_line, handling_of, hold_of, hold_words
from freestrung.judges import judge_crew
from freestrung.lines import words_at
from freestrung.playtext import FACES
from freestrung.standings import kept_parts
from freestrung.ways import kept_handling

AT = ("at NAME",)
ROW = (
    "row",
    "row NAME FACE WIND",
    "row NAME FACE WIND NAME FACE WIND",
    "row NAME FACE WIND NAME FACE WIND NAME FACE WIND",
    "row NAME FACE WIND NAME FACE WIND NAME FACE WIND NAME FACE WIND",
)
LIE = (
    "lie",
    "lie LIE_WORD",
    "lie LIE_WORD LIE_WORD",
    "lie LIE_WORD LIE_WORD LIE_WORD",
    "lie LIE_WORD LIE_WORD LIE_WORD LIE_WORD",
)
HOLD = ("hold", "hold GROUP", "hold GROUP GROUP", "hold GROUP GROUP GROUP", "hold GROUP GROUP GROUP GROUP")
PLAY = ("play",)
CURTAIN = ("curtain",)


def standing_lines(standing):
    """The lines of a standing."""
    row, faces, winds, words, hold = standing
    told = [f"{name} {FACES[face]} {wind}" for name, face, wind in zip(row, faces, winds)]
    letters = [",".join([str(letter) for letter in word]) for word in words]
    return [" ".join(["row"] + told), " ".join(["lie"] + letters), " ".join(["hold"] + hold_words(hold))]


def write_prompt(table):
    """The lines of a crew's table."""
    lines = []
    for node, standing, playings in table:
        lines.append(f"at {node}")
        lines.extend(standing_lines(standing))
        for playing in playings:
            lines.append("play")
            lines.extend([handling_line(handling) for handling in playing])
    return tuple(lines + ["curtain"])


def standing_at(lines, at):
    """The standing whose three lines begin here."""
    told = words_at(lines, at, ROW)
    letters = words_at(lines, at + 1, LIE)[1:]
    groups = words_at(lines, at + 2, HOLD)[1:]
    faces = tuple([FACES.index(word) for word in told[2::3]])
    winds = tuple([int(word) for word in told[3::3]])
    words = tuple([tuple([int(letter) for letter in word.split(",")]) for word in letters])
    return told[1::3], faces, winds, words, hold_of(groups)


def playings_at(lines, at):
    """The playings that begin at a line, and the number of the line behind them."""
    playings = []
    words = words_at(lines, at, PLAY + AT + CURTAIN)
    while words[0] in ("play", "do"):
        if words[0] == "play":
            playings.append(())
        else:
            playings[-1] = playings[-1] + (handling_of(words),)
        at += 1
        words = words_at(lines, at, DO + PLAY + AT + CURTAIN)
    return tuple(playings), at


def read_prompt(lines):
    """The rows of the crew's table of some lines; whether it is right is not judged."""
    rows = []
    at = 0
    words = words_at(lines, at, AT + CURTAIN)
    while words[0] == "at":
        standing = standing_at(lines, at + 1)
        playings, at = playings_at(lines, at + 4)
        rows.append((words[1], standing, playings))
        words = words_at(lines, at, AT + CURTAIN)
    if at + 1 < len(lines):
        raise BadLine(at + 1, 0)
    return tuple(rows)


def kept_row(row):
    """The row of a right table as tuples."""
    node, standing, playings = row
    kept = [tuple([kept_handling(handling) for handling in playing]) for playing in playings]
    return node, kept_parts(standing), tuple(kept)


class Prompter:
    """Answers each call at a position of a crew's table with the playing that this tells first."""

    def __init__(self, play, crew, table):
        number = judge_crew(play, crew, table)
        if number is not None:
            raise BadRow(number)
        self.plan = play.plan
        self.rows = tuple([kept_row(row) for row in table])
        self.told = {}
        for node, standing, playings in self.rows:
            self.told.setdefault((node, standing), playings)

    def __call__(self, position, call):
        if position not in self:
            raise NotThere(position)
        node = position[0]
        if not is_call_at(self.plan, node, call):
            raise BadCall(call)
        return self.told[position_of(position)][self.plan.calls_at(node).index(call)]

    def __len__(self):
        return len(self.rows)

    def __iter__(self):
        return iter(self.rows)

    def __contains__(self, x):
        return is_position(x) and position_of(x) in self.told
