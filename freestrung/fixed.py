"""Fixed books: one playing for each call, whatever was played ahead of it."""

from freestrung.errors import BadScenes, TooMany
from freestrung.forms import is_row
from freestrung.games import MOST_POSITIONS
from freestrung.houses import house_of
from freestrung.standings import is_free_standing


def fixed_explored(house, playings):
    """The table of a fixed book that holds and a pair of None; otherwise None, the least row that breaks, and how."""
    plan = house.play.plan
    rows = {house.play.beginning: ()}
    todo = list(rows)
    while len(todo) > 0:
        here = todo.pop(0)
        for call in plan.calls_at(here[0]):
            row = rows[here] + (call,)
            behind = (house.node_after(call), house.played(call, here[1], playings[call]))
            if behind[1] is None:
                return None, row, "play"
            if behind in rows:
                continue
            if plan.is_end(behind[0]) and not is_free_standing(behind[1]):
                return None, row, "free"
            if len(rows) == MOST_POSITIONS:
                raise TooMany("position")
            rows[behind] = row
            todo.append(behind)
    return tuple(list(rows)), None, None


class Fixed:
    """Whether a fixed book holds for a play and a crew, and what tells that."""

    def __init__(self, play, crew, playings):
        house = house_of(play, crew)
        if not is_row(playings) or len(playings) != len(play.plan):
            raise BadScenes(-1)
        table, row, word = fixed_explored(house, playings)
        self.table = table
        self.row = row
        self.word = word
        self.pairs = () if table is None else table

    def __bool__(self):
        return bool(self.row is None)

    def __len__(self):
        return len(self.pairs)

    def __iter__(self):
        return iter(self.pairs)
