"""Tables of costs: how few moves are needed from a hold at a deed until all deeds are done."""

from freestrung.deeds import kept_deeds
from freestrung.forms import is_row, is_whole
from freestrung.hands import Hands, cost_at, costs_along, rows_along
from freestrung.holds import is_hold, kept_hold


def costs(crew, row, deeds):
    """The right table of costs."""
    kept = kept_deeds(row, deeds)
    told = costs_along(Hands(crew), tuple(row), kept)
    return tuple([(number, hold, cost) for number, here in enumerate(told) for hold, cost in here.items()])


def is_cost_row(thing):
    """Whether a thing is a triple of an integer, a hold and an integer."""
    return is_row(thing) and len(thing) == 3 and is_whole(thing[0]) and is_hold(thing[1]) and is_whole(thing[2])


def told_costs(table, able):
    """For each deed the costs that a table tells first for its able holds."""
    told = [{} for _ in able]
    for row in table:
        if is_cost_row(row) and 0 <= row[0] < len(able) and kept_hold(row[1]) in able[row[0]]:
            told[row[0]].setdefault(kept_hold(row[1]), row[2])
    return told


def judge_costs(crew, row, deeds, table):
    """None if a table of costs is right, else the number of the first row that is wrong, or -1."""
    kept = kept_deeds(row, deeds)
    hands = Hands(crew)
    rows = rows_along(tuple(row), kept)
    able = [hands.able(here, deed) for here, deed in zip(rows, kept)]
    told = told_costs(table, able)
    if any([len(here) < len(those) for here, those in zip(told, able)]):
        return -1
    for number, entry in enumerate(table):
        if not is_cost_row(entry) or not 0 <= entry[0] < len(kept) or kept_hold(entry[1]) not in able[entry[0]]:
            return number
        deed, hold, cost = entry
        due = 0
        if deed < len(kept) - 1:
            left = hands.hold_behind(rows[deed], kept[deed], kept_hold(hold))
            due = cost_at(hands, rows[deed + 1], left, told[deed + 1])
        if cost != due:
            return number
    return None
