"""Playings: a handling for each of some deeds."""

from freestrung.deeds import kept_deeds, passed_at
from freestrung.errors import BadDeeds, Unplayable
from freestrung.everylie import Passings
from freestrung.forms import is_row
from freestrung.rigs import Rig
from freestrung.standings import kept_standing
from freestrung.ways import left_ways


def played_on(rig, standing, deeds, playing):
    """The standings ahead of each deed that can be done, and the one behind; and what is wrong, or None."""
    found = [standing]
    if not is_row(playing) or len(playing) != len(deeds):
        return found, (-1, "form")
    for number, (deed, handling) in enumerate(zip(deeds, playing)):
        word = rig.word_due(found[-1], deed, handling)
        if word is not None:
            return found, (number, word)
        found.append(rig.behind(found[-1], deed, handling))
    return found, None


def standings_along(rig, standing, deeds, playing):
    """The standings ahead of each deed of a playing, and the one behind; raises Unplayable."""
    found, wrong = played_on(rig, standing, deeds, playing)
    if wrong is not None:
        raise Unplayable(wrong[0], wrong[1])
    return found


def judge_playing(crew, standing, deeds, playing):
    """None if a playing can be played, else the number of the first deed that cannot be done, and the word."""
    here = kept_standing(crew, standing)
    return played_on(Rig(crew), here, kept_deeds(here[0], deeds), playing)[1]


def play_on(crew, standing, deeds, playing):
    """The standing behind a playing."""
    here = kept_standing(crew, standing)
    return standings_along(Rig(crew), here, kept_deeds(here[0], deeds), playing)[-1]


def moves_of(crew, standing, deeds, playing):
    """The moves of a playing."""
    here = kept_standing(crew, standing)
    rig = Rig(crew)
    found = standings_along(rig, here, kept_deeds(here[0], deeds), playing)
    return sum([rig.moves_to(before, handling) for before, handling in zip(found, playing)])


def passing_of(standing, deed, handling):
    """The passing of the lie by which a pass is done."""
    top, shown = left_ways(deed, handling[1], handling[2])
    return passed_at(standing[0], deed), top, shown


def passings_of(crew, standing, deeds, playing):
    """The row of passings of a playing of passes, turns, moves and rests."""
    here = kept_standing(crew, standing)
    kept = kept_deeds(here[0], deeds)
    for number, deed in enumerate(kept):
        if deed[0] in ("exit", "enter"):
            raise BadDeeds(number)
    found = standings_along(Rig(crew), here, kept, playing)
    row = [passing_of(before, deed, handling) for before, deed, handling in zip(found, kept, playing)
           if deed[0] == "pass"]
    return Passings(len(here[0]), row)
