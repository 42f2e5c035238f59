"""Whether a crew can play every evening that it knows ahead, and what tells that."""

from freestrung.errors import TooMany
from freestrung.forms import is_row
from freestrung.houses import house_of
from freestrung.standings import is_free_standing, kept_parts, picture_of

MOST_LOTS = 300


def may_stop(house, node, lot):
    """Whether an evening that leads to a node with this lot can be played, or none is over there."""
    return not house.play.plan.is_end(node) or any([is_free_standing(standing) for standing in lot])


def lots_explored(house):
    """The table of lots and None; otherwise None and the least evening that cannot be played."""
    plan = house.play.plan
    node, standing = house.play.beginning
    rows = {(node, (standing,)): ()}
    todo = list(rows)
    while len(todo) > 0:
        here = todo.pop(0)
        for call in plan.calls_at(here[0]):
            behind = (house.node_after(call), house.lot_behind(call, here[1]))
            if behind in rows:
                continue
            row = rows[here] + (call,)
            if not may_stop(house, behind[0], behind[1]):
                return None, row
            if len(rows) == MOST_LOTS:
                raise TooMany("lot")
            rows[behind] = row
            todo.append(behind)
    return tuple(list(rows)), None


class Known:
    """Whether every evening of a play can be played known ahead."""

    def __init__(self, play, crew):
        table, row = lots_explored(house_of(play, crew))
        self.table = table
        self.row = row
        self.lots = () if table is None else table

    def __bool__(self):
        return bool(self.row is None)

    def __len__(self):
        return len(self.lots)

    def __iter__(self):
        return iter(self.lots)


def kept_lot_row(house, thing):
    """The pair of a node and a lot as tuples, or None for what has not this form."""
    if not is_row(thing) or len(thing) != 2 or not is_row(thing[1]) or len(thing[1]) == 0:
        return None
    if not all([house.is_at(thing[0], standing) for standing in thing[1]]):
        return None
    lot = tuple([kept_parts(standing) for standing in thing[1]])
    if not all([one < other for one, other in zip(lot, lot[1:])]):
        return None
    return thing[0], lot


def is_right_lot(house, lots, row):
    """Whether a row of a table is right by itself, when `lots` has those of each node."""
    node, lot = row
    if not may_stop(house, node, lot) or not house.is_led_to(node, lot[0]):
        return False
    if not all([picture_of(standing) == picture_of(lot[0]) for standing in lot]):
        return False
    for call in house.play.plan.calls_at(node):
        behind = {standing: True for standing in house.lot_behind(call, lot)}
        others = lots.get(house.node_after(call), [])
        if not any([all([standing in behind for standing in other]) for other in others]):
            return False
    return True


def judge_lots(play, crew, table):
    """None if a table of lots is right, else the number of the first row that is wrong, or -1."""
    house = house_of(play, crew)
    rows = [kept_lot_row(house, thing) for thing in table]
    lots = {}
    for row in rows:
        if row is not None:
            lots.setdefault(row[0], []).append(row[1])
    node, standing = play.beginning
    if (standing,) not in lots.get(node, []):
        return -1
    for number, row in enumerate(rows):
        if row is None or not is_right_lot(house, lots, row):
            return number
    return None
