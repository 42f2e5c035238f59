"""Patterns of words: rows of kinds, one for each word, with a blank between."""

from freestrung.forms import is_one_of, is_row
from freestrung.names import is_name

KINDS = {
    "SIDE": ("left", "right"),
    "WAY": ("before", "behind", "any"),
    "SHOULDER": ("left", "right", "any"),
    "TIMES": ("1", "2", "3", "4"),
    "FACE": ("front", "back"),
    "WIND": ("-3", "-2", "-1", "0", "1", "2", "3"),
    "TOP": ("before", "behind", "along", "still", "-"),
    "SHOWN": ("before", "behind", "left", "right", "-"),
    "PLAYERS": ("1", "2", "3", "4"),
    "TO_THREE": ("0", "1", "2", "3"),
}

# The greatest integer of each kind of integers from 0 on.
GREATEST = {"BEARS": 60, "NUMBER": 119}

LETTERS = ("-4", "-3", "-2", "-1", "1", "2", "3", "4")
MOST_TOLD = 64


def is_lie_word(word):
    """Whether a word tells the letters of a word of a lie, with a comma between."""
    letters = word.split(",")
    return len(letters) <= MOST_TOLD and all([letter in LETTERS for letter in letters])


def is_group(word):
    """Whether a word tells one name, or two with a plus between."""
    names = word.split("+")
    return len(names) <= 2 and all([is_name(name) for name in names])


def accepts(kind, word):
    """Whether a word, or any other thing, is of a kind; a kind in small letters is the word itself."""
    if kind == "NAME":
        return is_name(word)
    if kind == "LIE_WORD":
        return is_lie_word(word)
    if kind == "GROUP":
        return is_group(word)
    if kind in GREATEST:
        return is_one_of(word, [str(number) for number in range(GREATEST[kind] + 1)])
    return is_one_of(word, KINDS.get(kind, (kind,)))


def matches(pattern, thing):
    """Whether a thing is a tuple of words of this pattern."""
    kinds = pattern.split(" ")
    if not is_row(thing) or len(thing) != len(kinds):
        return False
    return all([accepts(kind, word) for kind, word in zip(kinds, thing)])


def matches_one(patterns, thing):
    """Whether a thing is a tuple of words of one of these patterns."""
    return any([matches(pattern, thing) for pattern in patterns])
