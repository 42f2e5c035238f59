"""Evenings of a play, in order and counted, and the standings that a row of calls can lead to."""

from freestrung.errors import BadMost
from freestrung.forms import is_within
from freestrung.houses import house_of

MOST_EVENING = 60


def judge_most(most):
    """Raises BadMost for what is no bound on the calls of an evening."""
    if not is_within(most, 0, MOST_EVENING):
        raise BadMost(most)


def nodes_ahead(plan, most):
    """For each number of calls the nodes from which just so many lead to an end."""
    found = [{node: True for node in plan.ends}]
    for _ in range(most):
        found.append({call[0]: True for call in plan.calls if call[2] in found[-1]})
    return found


def good_calls(plan, ahead, node, left):
    """The calls at a node behind which so many calls can lead to an end."""
    return [call for call in plan.calls_at(node) if plan.calls[call][2] in ahead[left]]


def filled_up(plan, ahead, row, many):
    """The first evening of so many calls that begins with a row of calls from which there is one."""
    node = plan.node_behind(row)
    while len(row) < many:
        call = good_calls(plan, ahead, node, many - len(row) - 1)[0]
        row = row + (call,)
        node = plan.calls[call][2]
    return row


def evening_behind(plan, ahead, row):
    """The next evening of as many calls, or None if this was the last one."""
    many = len(row)
    for number in range(many - 1, -1, -1):
        others = good_calls(plan, ahead, plan.calls[row[number]][0], many - number - 1)
        later = [call for call in others if call > row[number]]
        if len(later) > 0:
            return filled_up(plan, ahead, row[:number] + (later[0],), many)
    return None


def evenings(play, most):
    """All evenings of at most so many calls, in the order of least rows."""
    judge_most(most)
    plan = play.plan
    ahead = nodes_ahead(plan, most)
    for many in range(most + 1):
        row = filled_up(plan, ahead, (), many) if plan.first in ahead[many] else None
        while row is not None:
            yield row
            row = evening_behind(plan, ahead, row)


def evening_counts(play, most):
    """The numbers of evenings of 0, 1, .., most calls."""
    judge_most(most)
    plan = play.plan
    counts = {node: 1 if plan.is_end(node) else 0 for node in plan.nodes}
    found = [counts[plan.first]]
    for _ in range(most):
        counts = {
            node: sum([counts[plan.calls[call][2]] for call in plan.calls_at(node)]) for node in plan.nodes
        }
        found.append(counts[plan.first])
    return tuple(found)


def lot_after(play, crew, row):
    """The lot of a row of calls: all standings at which a crew can be when it has played these."""
    house = house_of(play, crew)
    play.plan.node_behind(row)
    lot = (play.beginning[1],)
    for call in row:
        lot = house.lot_behind(call, lot)
    return lot
