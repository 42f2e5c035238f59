"""Clearings: how a crew comes to a straight lie by passes and rests, or what tells that it never does."""

from freestrung.errors import TooMany
from freestrung.outcomes import MOST_STANDINGS
from freestrung.rigs import Rig
from freestrung.standings import is_standing, kept_standing
from freestrung.tangles import straight_words


def clearing_deeds(row):
    """The deeds of a clearing at a row of puppets, in order."""
    deeds = []
    for place, name in enumerate(row):
        if place > 0:
            deeds.append(("pass", name, row[place - 1], "left", "any"))
        if place < len(row) - 1:
            deeds.append(("pass", name, row[place + 1], "right", "any"))
    return deeds + [("rest",)]


def hangs_clear(standing):
    """Whether the lie of a standing is straight."""
    return standing[3] == straight_words(len(standing[0]))


def steps_on(rig, stand):
    """For each standing behind a deed of a clearing, in order, the pair that leads there, and its Stand."""
    return [((deed, handling), after) for deed in clearing_deeds(stand.held[0])
            for _, handling, after in rig.ways_on(stand, deed)]


def cleared(rig, standing):
    """The row of a clearing and None; otherwise None and the lot of all standings that were found."""
    start = rig.stand(standing)
    if hangs_clear(standing):
        return (), None
    rows = {start: ()}
    todo = [start]
    while len(todo) > 0:
        here = todo.pop(0)
        for pair, after in steps_on(rig, here):
            if after in rows:
                continue
            rows[after] = rows[here] + (pair,)
            if hangs_clear(after.held):
                return rows[after], None
            if len(rows) > MOST_STANDINGS:
                raise TooMany("standing")
            todo.append(after)
    return None, tuple([stand.held for stand in rows])


class Clearing:
    """Whether a crew can clear a standing, and what tells that."""

    def __init__(self, crew, standing):
        row, lot = cleared(Rig(crew), kept_standing(crew, standing))
        self.row = row
        self.lot = lot
        self.told = lot if row is None else row

    def __bool__(self):
        return bool(self.row is not None)

    def __len__(self):
        return len(self.told)

    def __iter__(self):
        return iter(self.told)


def judge_lot(crew, lot):
    """None if a lot is closed, else the number of the first standing that is wrong, or that leads out of it."""
    rig = Rig(crew)
    within = {rig.stand(kept_standing(crew, thing)): True for thing in lot if is_standing(thing, crew)}
    for number, thing in enumerate(lot):
        if not is_standing(thing, crew):
            return number
        here = kept_standing(crew, thing)
        if hangs_clear(here) or not all([after in within for _, after in steps_on(rig, rig.stand(here))]):
            return number
    return None
