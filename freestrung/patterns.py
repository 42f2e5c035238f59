"""Patterns of words: rows of kinds, one for each word, with a blank between."""

from freestrung.forms import is_one_of, is_row
from freestrung.names import is_name

KINDS = {
    "SIDE": ("left", "right"),
    "WAY": ("before", "behind", "any"),
    "SHOULDER": ("left", "right", "any"),
    "TIMES": ("1", "2", "3", "4"),
    "FACE": ("front", "back"),
}


def accepts(kind, word):
    """Whether a word, or any other thing, is of a kind; a kind in small letters is the word itself."""
    if kind == "NAME":
        return is_name(word)
    return is_one_of(word, KINDS.get(kind, (kind,)))


def matches(pattern, thing):
    """Whether a thing is a tuple of words of this pattern."""
    kinds = pattern.split(" ")
    if not is_row(thing) or len(thing) != len(kinds):
        return False
    return all([accepts(kind, word) for kind, word in zip(kinds, thing)])


def matches_one(patterns, thing):
    """Whether a thing is a tuple of words of one of these patterns."""
    return any([matches(pattern, thing) for pattern in patterns])
