"""Plain models of what is played: slow, and written from the document alone."""

import functools

from freestrung.crews import Crew
from freestrung.errors import TooMany
from freestrung.handlings import handlings, played
from freestrung.playings import judge_playing, play_on
from freestrung.sound import Sound
from freestrung.standings import is_free_standing, is_standing, picture_of, standing_of


@functools.lru_cache(None)
def ways_of(numbers, standing, deed):
    """All handlings with the standings behind them, for a crew told by its numbers."""
    crew = Crew.of(numbers)
    return tuple((way, played(crew, standing, deed, way)) for way in handlings(crew, standing, deed))


def outcomes_model(crew, standings, deeds):
    """The outcomes of all of some standings, in the order in which they are found."""
    layer = {standing: () for standing in standings}
    for deed in (None,) + tuple(deeds):
        behind = {} if deed else dict(layer)
        for standing, playing in layer.items() if deed else ():
            for way, after in ways_of(crew.numbers, standing, deed):
                behind.setdefault(after, playing + (way,))
        layer = behind
        if len(layer) > 300:
            raise TooMany("standing")
    return tuple(layer.items())


def deeds_of(play, call, standing):
    return play.flow(call, picture_of(standing)).deeds


def answers_model(play, crew, position, call):
    node, standing = position
    return outcomes_model(crew, (standing,), deeds_of(play, call, standing))


def behind_call(play, crew, position, call):
    """The positions that the answers to a call lead to."""
    return [(play.plan[call][2], after) for after, _ in answers_model(play, crew, position, call)]


def begun(play):
    return (play.plan.first, standing_of(play.opening))


def positions_model(play, crew):
    found = [begun(play)]
    for position in found:
        for call in play.plan.calls_at(position[0]):
            found += [after for after in behind_call(play, crew, position, call) if after not in found]
    return tuple(found)


def is_bound(play, position):
    return play.plan.is_end(position[0]) and not is_free_standing(position[1])


def ranks_model(play, crew, found):
    """The ranks of the lost ones of some positions, told by their definition."""
    links = {position: [behind_call(play, crew, position, call) for call in play.plan.calls_at(position[0])]
             for position in found}
    ranks = {position: 0 for position in found if is_bound(play, position)}
    for rank in range(1, len(found) + 2):
        newly = [position for position in found if position not in ranks and any(
            all(ranks.get(after, rank) < rank for after in told) for told in links[position])]
        ranks.update((position, rank) for position in newly)
    return ranks


def crew_table_model(play, crew, ranks):
    """The table that is told: each call answered by the first answer that is not lost."""
    rows, todo = [], [begun(play)]
    for position in todo:
        playings = []
        for call in play.plan.calls_at(position[0]):
            good = [(after, playing) for after, playing in answers_model(play, crew, position, call)
                    if (play.plan[call][2], after) not in ranks]
            playings.append(good[0][1])
            if (play.plan[call][2], good[0][0]) not in todo:
                todo.append((play.plan[call][2], good[0][0]))
        rows.append(position + (tuple(playings),))
    return tuple(rows)


def is_in_place(play, crew, node, standing):
    return isinstance(node, str) and node in play.plan.nodes and is_standing(standing, crew)


def tupled(thing):
    """The thing with tuples in the place of lists, at any depth."""
    return tuple(tupled(part) for part in thing) if isinstance(thing, (list, tuple)) else thing


def leads_to(play, crew, standing, call, playing):
    """The standing behind a call that is played so, or None."""
    deeds = deeds_of(play, call, standing)
    if judge_playing(crew, standing, deeds, playing) is not None:
        return None
    return play_on(crew, standing, deeds, playing)


def is_whole(thing):
    return isinstance(thing, int) and not isinstance(thing, bool)


def judged(rows, formed, right, beginning):
    """What a judge tells of some rows: `formed` gives what a row tells, or None; `right` judges one of these."""
    told = [formed(row) for row in rows]
    if beginning not in [row[:2] for row in told if row is not None]:
        return -1
    for number, row in enumerate(told):
        if row is None or not right(row, [other for other in told if other is not None]):
            return number
    return None


def judge_crew_model(play, crew, table):
    def formed(row):
        if not isinstance(row, (list, tuple)) or len(row) != 3 or not is_in_place(play, crew, *row[:2]):
            return None
        if not isinstance(row[2], (list, tuple)) or len(row[2]) != len(play.plan.calls_at(row[0])):
            return None
        return tupled(row)

    def right(row, rows):
        node, standing, playings = row
        if is_bound(play, (node, standing)) or (node, picture_of(standing)) not in Sound(play):
            return False
        here = [other[:2] for other in rows]
        return all((play.plan[call][2], leads_to(play, crew, standing, call, playing)) in here
                   for call, playing in zip(play.plan.calls_at(node), playings))

    return judged(table, formed, right, begun(play))


def judge_caller_model(play, crew, table):
    def formed(row):
        if not isinstance(row, (list, tuple)) or len(row) != 4 or not is_in_place(play, crew, *row[:2]):
            return None
        if not all(map(is_whole, row[2:])) or row[2] not in (-1,) + play.plan.calls_at(row[0]):
            return None
        return tupled(row)

    def right(row, rows):
        node, standing, call, rank = row
        if (node, picture_of(standing)) not in Sound(play):
            return False
        if call == -1:
            return is_bound(play, (node, standing)) and rank == 0
        return rank > 0 and all(any(other[:2] == after and 0 <= other[3] < rank for other in rows)
                                for after in behind_call(play, crew, (node, standing), call))

    return judged(table, formed, right, begun(play))


def judge_lots_model(play, crew, table):
    def formed(row):
        if not isinstance(row, (list, tuple)) or len(row) != 2 or not isinstance(row[1], (list, tuple)) or not row[1]:
            return None
        if not all(is_in_place(play, crew, row[0], standing) for standing in row[1]):
            return None
        row = tupled(row)
        return row if sorted(set(row[1])) == list(row[1]) else None

    def right(row, rows):
        node, lot = row
        if play.plan.is_end(node) and not any(map(is_free_standing, lot)):
            return False
        if len({picture_of(standing) for standing in lot}) > 1 or (node, picture_of(lot[0])) not in Sound(play):
            return False
        for call in play.plan.calls_at(node):
            behind = dict(outcomes_model(crew, lot, deeds_of(play, call, lot[0])))
            if not any(other == play.plan[call][2] and set(those) <= set(behind) for other, those in rows):
                return False
        return True

    return judged(table, formed, right, (play.plan.first, (begun(play)[1],)))
