"""Outcomes: all standings that some playing of a row of deeds leads to."""

from freestrung.deeds import kept_deeds
from freestrung.errors import TooMany
from freestrung.rigs import Rig
from freestrung.standings import kept_standing

MOST_STANDINGS = 300


def layer_behind(rig, layer, deed, cheap):
    """What a layer becomes by one deed more: for each Stand, in order, the moves and one playing that leads to it."""
    found = {}
    for before, (moves, playing) in layer.items():
        for more, handling, after in rig.ways_on(before, deed):
            if after not in found or (cheap and moves + more < found[after][0]):
                found[after] = (moves + more, playing + (handling,))
                if len(found) > MOST_STANDINGS:
                    raise TooMany("standing")
    return found


def layer_found(rig, lot, deeds, cheap=False):
    """The last layer of some deeds, begun at all standings of a lot; its playings are cheap, or those found first."""
    layer = {rig.stand(standing): (0, ()) for standing in lot}
    if len(layer) > MOST_STANDINGS:
        raise TooMany("standing")
    for deed in deeds:
        layer = layer_behind(rig, layer, deed, cheap)
    return layer


def lot_found(rig, lot, deeds):
    """The ascending tuple of the standings behind some deeds, begun at all standings of a lot."""
    return tuple(sorted([stand.held for stand in layer_found(rig, lot, deeds)]))


def outcomes(crew, standing, deeds):
    """All standings that some playing leads to, each with the playing by which it was found first."""
    here = kept_standing(crew, standing)
    found = layer_found(Rig(crew), (here,), kept_deeds(here[0], deeds))
    return tuple([(stand.held, playing) for stand, (_, playing) in found.items()])


def lot_behind(crew, lot, deeds):
    """The lot behind some standings of one picture."""
    kept = [kept_standing(crew, standing) for standing in lot]
    if len(kept) == 0:
        return ()
    return lot_found(Rig(crew), kept, kept_deeds(kept[0][0], deeds))


def cheap_outcomes(crew, standing, deeds):
    """All standings that some playing leads to, each with the least moves and a playing that has them."""
    here = kept_standing(crew, standing)
    found = layer_found(Rig(crew), (here,), kept_deeds(here[0], deeds), cheap=True)
    return tuple([(stand.held, moves, playing) for stand, (moves, playing) in found.items()])
