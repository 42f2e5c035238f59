"""A plain reader of lines: which word of which line is the first that cannot stand, told by a grammar of states.

A grammar is a dict from a state to pairs of a line's form and the state behind it. A form is a tuple of regular
expressions, one for each word; a last list of some and a number is told up to so many times. The states in `LAST`
may be the last ones.
"""

import re

from freestrung.names import is_name

LAST = ("done", "log")
NAME = "NAME"
GROUP = "GROUP"
LIE_WORD = r"-?[1-4](,-?[1-4]){0,63}"
FACE = "front|back"
WIND = r"0|-?[1-3]"
TOP = "before|behind|along|still|-"
SHOWN = "before|behind|left|right|-"


def is_fine(kind, word):
    if kind == NAME:
        return is_name(word)
    if kind == GROUP:
        return 1 <= len(word.split("+")) <= 2 and all(map(is_name, word.split("+")))
    return re.fullmatch(kind, word) is not None


def lengthened(form, words):
    """The form written out for a line of so many words, and whether the line may end there."""
    *kinds, last = form
    if not isinstance(last, list):
        return list(form), words == len(form)
    repeated, most = last
    return kinds + repeated * most, words >= len(kinds) and (words - len(kinds)) % len(repeated) == 0


def wrong_word(line, forms):
    """The first word that cannot stand, and the form of the line; one of the two is None."""
    if not isinstance(line, str):
        return 0, None
    words = line.split(" ")
    for form in forms:
        if is_fine(form[0], words[0]):
            kinds, whole = lengthened(form, len(words))
            for place, word in enumerate(words):
                if place >= len(kinds) or not is_fine(kinds[place], word):
                    return place, None
            return (None, form) if whole else (len(words), None)
    return 0, None


def first_wrong(grammar, state, lines):
    """The pair of the first line and word that cannot stand, or None."""
    for number, line in enumerate(lines):
        choices = grammar[state]
        place, form = wrong_word(line, [form for form, _ in choices])
        if form is None:
            return number, place
        state = dict((tuple(map(str, form)), after) for form, after in choices)[tuple(map(str, form))]
    return None if state in LAST else (len(lines), 0)


DO = ("do", TOP, SHOWN, [[GROUP], 4])
AT, PLAY, CURTAIN = (("at", NAME), "at"), (("play",), "play"), (("curtain",), "done")
PROMPT = {
    "start": [AT, CURTAIN],
    "at": [(("row", [[NAME, FACE, WIND], 4]), "row")],
    "row": [(("lie", [[LIE_WORD], 4]), "lie")],
    "lie": [(("hold", [[GROUP], 4]), "hold")],
    "hold": [PLAY, AT, CURTAIN],
    "play": [(DO, "play"), PLAY, AT, CURTAIN],
    "done": [],
}

NUMBER = r"[0-9]|[1-9][0-9]|1[01][0-9]"
ENTRIES = [(("call", NUMBER), "log"), (DO, "log"), (("curtain",), "log")]
JOURNAL = {
    "opening": [(("opening", [[NAME, FACE], 4]), "first")],
    "first": [(("first", NAME), "ends")],
    "ends": [(("ends", NAME, [[NAME], 39]), "calls")],
    "calls": [(("call", NAME, NAME, NAME), "calls"),
              (("crew", "[1-4]", "[0-3]", "[0-3]", "[0-9]|[1-5][0-9]|60", "[0-3]"), "log")],
    "log": ENTRIES,
}


def spoilt_lines(rng, lines, words):
    """The lines with one thing changed: a word, a blank, a line, or a piece of them."""
    lines = list(lines)
    number = rng.randrange(len(lines))
    told = lines[number].split(" ")
    place = rng.randrange(len(told))
    kind = rng.randrange(9)
    if kind < 3:
        told[place] = rng.choice(words)
    elif kind == 3:
        told.insert(place, rng.choice(words))
    elif kind == 4:
        del told[place]
    elif kind == 5:
        told.append(rng.choice(words))
    lines[number] = " ".join(told)
    if kind == 6:
        del lines[number]
    if kind == 7:
        lines.insert(number, rng.choice(lines + [None, 7, "", " "]))
    if kind == 8:
        lines = lines[:number] if rng.random() < 0.5 else lines + [rng.choice(lines)]
    return lines
