"""What the hands of a crew can do in rows of puppets, each thing found once."""

from freestrung.deeds import row_behind
from freestrung.holds import behind, holds, is_alone, is_held, is_lawful, one_move_on

NEEDS_BAR = ("pass", "turn", "move", "exit")


def hand_word(crew, row, deed, hold, top):
    """The word that is due for a deed done with a lawful hold and a way above, or None."""
    if deed[0] in NEEDS_BAR and not is_held(hold, deed[1]):
        return "bar"
    if (deed[0] == "move" or top == "along") and not is_alone(hold, deed[1]):
        return "alone"
    if top == "before" and not is_held(hold, deed[2]):
        return "other"
    if not is_lawful(crew, row_behind(row, deed), behind(hold, deed)):
        return "reach"
    return None


class Hands:
    """The hands of a crew."""

    def __init__(self, crew):
        self.crew = crew
        self.moved = {}
        self.nearby = {}
        self.left = {}
        self.told = {}

    def moves_from(self, row, hold):
        """The lawful holds that are one move away from a lawful one."""
        if (row, hold) not in self.moved:
            self.moved[row, hold] = one_move_on(self.crew, row, hold)
        return self.moved[row, hold]

    def found_near(self, row, hold):
        """How far each hold is that is at most as many moves away as the crew has beats."""
        found = {hold: 0}
        for _ in range(self.crew.beats):
            for here in list(found):
                for other in self.moves_from(row, here):
                    if other not in found:
                        found[other] = found[here] + 1
        return found

    def near(self, row, hold):
        """Pairs of how far a hold is and the hold, of those that can be had in time, in order."""
        if (row, hold) not in self.nearby:
            found = self.found_near(row, hold)
            self.nearby[row, hold] = tuple(sorted([(moves, other) for other, moves in found.items()]))
        return self.nearby[row, hold]

    def hold_left(self, row, deed, hold, top):
        """The hold behind a deed done with a lawful hold and a way above, or None if it cannot be done so."""
        key = (row, deed, hold, top)
        if key not in self.left:
            word = hand_word(self.crew, row, deed, hold, top)
            self.left[key] = behind(hold, deed) if word is None else None
        return self.left[key]

    def hold_behind(self, row, deed, hold):
        """The hold behind a deed done with a lawful hold, or None if this is not able."""
        # Without a way above, a deed asks no more of the hold than with any.
        return self.hold_left(row, deed, hold, None)

    def able(self, row, deed):
        """The able holds for a deed."""
        if (row, deed) not in self.told:
            lawful = list(holds(self.crew, row))
            self.told[row, deed] = tuple([hold for hold in lawful if self.hold_behind(row, deed, hold) is not None])
        return self.told[row, deed]


def rows_along(row, deeds):
    """The rows of puppets ahead of deeds."""
    rows = []
    for deed in deeds:
        rows.append(row)
        row = row_behind(row, deed)
    return rows


def cost_at(hands, row, hold, costs):
    """The fewest moves from a hold on, when the next able holds have these costs; -1 if none can be had."""
    found = [moves + costs[other] for moves, other in hands.near(row, hold) if costs.get(other, -1) != -1]
    return min(found, default=-1)


def costs_ahead(hands, row, deed, row_next, costs):
    """The cost of each able hold of a deed, when those of the next deed have these costs."""
    return {
        hold: cost_at(hands, row_next, hands.hold_behind(row, deed, hold), costs) for hold in hands.able(row, deed)
    }


def costs_along(hands, row, deeds):
    """For each deed the cost of each able hold."""
    rows = rows_along(row, deeds)
    found = []
    for number in range(len(deeds) - 1, -1, -1):
        if len(found) == 0:
            found.append({hold: 0 for hold in hands.able(rows[number], deeds[number])})
        else:
            found.append(costs_ahead(hands, rows[number], deeds[number], rows[number + 1], found[-1]))
    return found[::-1]
