"""The judges of the tables of a called evening, whoever wrote them."""

from freestrung.arena import is_call_at
from freestrung.forms import is_row, is_whole
from freestrung.houses import house_of
from freestrung.standings import is_free_standing, kept_parts


def answers_calls(house, node, thing):
    """Whether a thing is a tuple with as many things as there are calls at a node."""
    return is_row(thing) and len(thing) == len(house.play.plan.calls_at(node))


def is_played_well(house, node, standing, playings, is_told):
    """Whether a row of a table with playings is right by itself; `is_told` has the positions that the table has."""
    plan = house.play.plan
    if plan.is_end(node) and not is_free_standing(standing):
        return False
    if not house.is_led_to(node, standing):
        return False
    for call, playing in zip(plan.calls_at(node), playings):
        behind = house.played(call, standing, playing)
        if behind is None or (house.node_after(call), behind) not in is_told:
            return False
    return True


def kept_crew_row(house, thing):
    """The node, the standing as tuples, and the playings; None for what has not this form."""
    if not is_row(thing) or len(thing) != 3 or not house.is_at(thing[0], thing[1]):
        return None
    if not answers_calls(house, thing[0], thing[2]):
        return None
    return thing[0], kept_parts(thing[1]), thing[2]


def judge_crew(play, crew, table):
    """None if a crew's table is right, else the number of the first row that is wrong, or -1."""
    house = house_of(play, crew)
    rows = [kept_crew_row(house, thing) for thing in table]
    told = {row[:2]: True for row in rows if row is not None}
    if play.beginning not in told:
        return -1
    for number, row in enumerate(rows):
        if row is None or not is_played_well(house, row[0], row[1], row[2], told):
            return number
    return None


def kept_caller_row(house, thing):
    """The node, the standing as tuples, the call and the rank; None for what has not this form."""
    if not is_row(thing) or len(thing) != 4 or not house.is_at(thing[0], thing[1]):
        return None
    node, standing, call, rank = thing
    if not is_whole(rank) or not is_whole(call) or (call != -1 and not is_call_at(house.play.plan, node, call)):
        return None
    return node, kept_parts(standing), call, rank


def least_ranks(rows):
    """For each position the least rank that some rows tell, those below 0 left out."""
    ranks = {}
    for node, standing, _, rank in rows:
        if rank >= 0:
            ranks[node, standing] = min(rank, ranks.get((node, standing), rank))
    return ranks


def is_called_well(house, row, ranks):
    """Whether a row of a caller's table is right by itself, when the least ranks of the table are told."""
    node, standing, call, rank = row
    if not house.is_led_to(node, standing):
        return False
    if call == -1:
        return house.play.plan.is_end(node) and not is_free_standing(standing) and rank == 0
    if rank <= 0:
        return False
    behind = [(house.node_after(call), stand.held) for stand in house.answers(call, house.rig.stand(standing))]
    return all([ranks.get(position, rank) < rank for position in behind])


def judge_caller(play, crew, table):
    """None if a caller's table is right, else the number of the first row that is wrong, or -1."""
    house = house_of(play, crew)
    rows = [kept_caller_row(house, thing) for thing in table]
    formed = [row for row in rows if row is not None]
    if play.beginning not in [row[:2] for row in formed]:
        return -1
    ranks = least_ranks(formed)
    for number, row in enumerate(rows):
        if row is None or not is_called_well(house, row, ranks):
            return number
    return None
