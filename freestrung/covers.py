"""Whether hands can do a row of deeds, whatever the faces, winds and lies are."""

from freestrung.deeds import fits_row, is_deed, kept_deeds
from freestrung.errors import BadDeed
from freestrung.hands import Hands, costs_along, rows_along
from freestrung.holds import judge_hold, kept_hold


def able(crew, row, deed):
    """The able holds for a deed that is done from a row of puppets on."""
    if not is_deed(deed) or not fits_row(row, deed):
        raise BadDeed(deed)
    return Hands(crew).able(tuple(row), tuple(deed))


def layers_along(hands, row, deeds, hold):
    """The layer of each deed, up to the first empty one; for None the first deed has all its able holds."""
    found = []
    ahead = () if hold is None else (hold,)
    for here, deed in zip(rows_along(row, deeds), deeds):
        layer = hands.able(here, deed)
        if hold is not None or len(found) > 0:
            near = {other: True for held in ahead for _, other in hands.near(here, held)}
            layer = tuple([other for other in layer if other in near])
        found.append(layer)
        if len(layer) == 0:
            break
        ahead = [hands.hold_behind(here, deed, other) for other in layer]
    return tuple(found)


def cheapest_holds(hands, row, deeds, hold):
    """The fewest moves by which covered deeds are done, and the first holds that have them."""
    costs = costs_along(hands, row, deeds)
    fewest = 0
    chosen = []
    for number, (here, deed) in enumerate(zip(rows_along(row, deeds), deeds)):
        if hold is None:
            ways = [(0, other) for other in hands.able(here, deed)]
        else:
            ways = hands.near(here, hold)
        sums = [(moves + costs[number][other], other) for moves, other in ways if costs[number].get(other, -1) != -1]
        least, best = min(sums)
        fewest = least if number == 0 else fewest
        chosen.append(best)
        hold = hands.hold_behind(here, deed, best)
    return fewest, tuple(chosen)


class Cover:
    """Whether the hands of a crew cover some deeds, begun with a hold that is told or with any."""

    def __init__(self, crew, row, deeds, *, hold=None):
        kept = kept_deeds(row, deeds)
        if hold is not None:
            judge_hold(crew, row, hold)
            hold = kept_hold(hold)
        hands = Hands(crew)
        self.layers = layers_along(hands, tuple(row), kept, hold)
        self.stuck = None
        self.fewest = None
        self.chosen = None
        if () in self.layers:
            self.stuck = len(self.layers) - 1
        else:
            fewest, chosen = cheapest_holds(hands, tuple(row), kept, hold)
            self.fewest = fewest
            self.chosen = chosen

    def __bool__(self):
        return bool(self.stuck is None)

    def __len__(self):
        return len(self.layers)

    def __iter__(self):
        return iter(self.layers)
