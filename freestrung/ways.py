"""The ways in which deeds are done: what bars do above and puppets below, and how the cords take it."""

from freestrung.deeds import led_along, passed_at
from freestrung.forms import is_one_of, is_row
from freestrung.free import is_free_cord
from freestrung.holds import is_hold, kept_hold
from freestrung.rows import replaced
from freestrung.tangles import (
    crossed_above, crossed_below, letters_in, other_way, set_off, straight_words, thinned_words, twist_of,
)

TOPS = {"pass": ("before", "behind"), "turn": ("along", "still")}
SHOWNS = {"pass": ("before", "behind"), "turn": ("left", "right"), "exit": ("before", "behind")}
NONE = (None,)


def is_choice(thing, words):
    """Whether a thing is one of some words, or None where there is no choice."""
    return thing is None if words == NONE else is_one_of(thing, words)


def is_handling(deed, thing):
    """Whether a thing is a handling of a deed, whatever its hold holds."""
    if not is_row(thing) or len(thing) != 3 or not is_hold(thing[0]):
        return False
    return is_choice(thing[1], TOPS.get(deed[0], NONE)) and is_choice(thing[2], SHOWNS.get(deed[0], NONE))


def kept_handling(handling):
    """The handling as tuples."""
    return kept_hold(handling[0]), handling[1], handling[2]


def follows_script(deed, shown):
    """Whether what is shown is what the deed tells."""
    return deed[0] not in SHOWNS or deed[-1] in ("any", shown)


def ways_of(deed):
    """All pairs of a way above and what is shown that a deed lets, in order."""
    showns = [shown for shown in SHOWNS.get(deed[0], NONE) if follows_script(deed, shown)]
    return [(top, shown) for top in TOPS.get(deed[0], NONE) for shown in showns]


def left_ways(deed, top, shown):
    """The ways of the left one of two that pass, when those of the puppet are told."""
    if deed[3] == "left":
        return other_way(top), other_way(shown)
    return top, shown


def passed_words(row, words, deed, top, shown):
    """The words of the lie behind a pass."""
    place = passed_at(row, deed)
    left_top, left_shown = left_ways(deed, top, shown)
    return crossed_below(crossed_above(words, place, left_top), place, left_shown)


def words_behind(row, words, deed, top, shown):
    """The words of the lie behind a deed."""
    if deed[0] == "pass":
        return passed_words(row, words, deed, top, shown)
    if deed[0] == "exit":
        return thinned_words(words, [place for place, name in enumerate(row) if name != deed[1]])
    if deed[0] == "enter":
        if deed[2] == "left":
            return straight_words(1) + set_off(words, 1)
        return words + set_off(straight_words(1), len(words))
    return words


def winds_behind(row, winds, deed, top, shown):
    """The winds behind a deed."""
    if top != "still":
        return led_along(row, deed, winds, 0)
    place = row.index(deed[1])
    return replaced(winds, place, winds[place] + (1 if shown == "left" else -1))


def is_tied(row, words, deed, shown):
    """Whether the other cords keep a puppet from a move or an exit."""
    place = row.index(deed[1])
    if deed[0] == "exit":
        return not is_free_cord(words, place, shown)
    others = [other for other in range(len(row)) if other != place]
    return any([twist_of(thinned_words(words, sorted([place, other]))) != 0 for other in others])


def cord_word(crew, row, winds, words, deed, top, shown):
    """The word that is due for what the cords of a standing do behind a deed, or None."""
    if top == "still" and not all([abs(wind) <= crew.winds for wind in winds_behind(row, winds, deed, top, shown)]):
        return "wind"
    if deed[0] == "move" and winds[row.index(deed[1])] != 0:
        return "wind"
    if deed[0] in ("move", "exit") and is_tied(row, words, deed, shown):
        return "tied"
    if deed[0] == "pass" and letters_in(passed_words(row, words, deed, top, shown)) - len(words) > crew.bears:
        return "heavy"
    return None
