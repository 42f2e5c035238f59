"""Holds: which bars are in hands, and how hands come from one hold to another."""

from freestrung.errors import BadHold
from freestrung.forms import are_names, is_row
from freestrung.rows import replaced


def is_hold(thing):
    """Whether a thing is a hold, with any number of groups."""
    if not is_row(thing) or not all([are_names(group, 1, 2) for group in thing]):
        return False
    kept = kept_hold(thing)
    names = [name for group in kept for name in group]
    return kept == ordered(kept) and len(set(names)) == len(names)


def kept_hold(hold):
    """The hold as tuples."""
    return tuple(tuple(group) for group in hold)


def ordered(groups):
    """The groups as a hold has them: ascending, and each of them ascending."""
    return tuple(sorted([tuple(sorted(group)) for group in groups]))


def is_lawful(crew, row, hold):
    """Whether a hold is lawful."""
    if len(hold) > crew.players:
        return False
    if not all([name in row for group in hold for name in group]):
        return False
    places = [[row.index(name) for name in group] for group in hold]
    return all([max(group) - min(group) <= crew.reach for group in places])


def lawful(crew, row, hold):
    """Whether a hold is lawful for a crew and a row of puppets."""
    if not is_hold(hold):
        raise BadHold(hold)
    return is_lawful(crew, row, hold)


def judge_hold(crew, row, hold):
    """Raises BadHold for what is no lawful hold."""
    if not is_hold(hold) or not is_lawful(crew, row, hold):
        raise BadHold(hold)


def holds_with(hold, name):
    """The holds that come about when one bar more is taken into a hand, lawful or not."""
    found = [ordered(hold + ((name,),))]
    for number, group in enumerate(hold):
        if len(group) == 1:
            found.append(ordered(replaced(hold, number, group + (name,))))
    return found


def all_holds(row):
    """All holds of the bars of a row, lawful or not."""
    found = [()]
    for name in sorted(row):
        found = found + [other for hold in found for other in holds_with(hold, name)]
    return found


def holds(crew, row):
    """All lawful holds, ascending."""
    for hold in sorted(all_holds(row)):
        if is_lawful(crew, row, hold):
            yield hold


def without_bar(hold, name):
    """The hold without the bar of a puppet, which may be in it or not."""
    groups = [[held for held in group if held != name] for group in hold]
    return ordered([group for group in groups if len(group) > 0])


def one_move_on(crew, row, hold):
    """The lawful holds that are one move away from a lawful one, ascending."""
    found = []
    for name in row:
        rest = without_bar(hold, name)
        found.extend([rest] + holds_with(rest, name))
    return tuple(sorted(set([other for other in found if other != hold and is_lawful(crew, row, other)])))


def next_holds(crew, row, hold):
    """The lawful holds that are one move away from a lawful one, ascending."""
    judge_hold(crew, row, hold)
    return one_move_on(crew, row, kept_hold(hold))


def distances(crew, row, hold):
    """How far each lawful hold is from a lawful one."""
    found = {hold: 0}
    todo = [hold]
    while len(todo) > 0:
        here = todo.pop(0)
        for other in one_move_on(crew, row, here):
            if other not in found:
                found[other] = found[here] + 1
                todo.append(other)
    return found


def far(crew, row, hold, other):
    """The least number of moves from a lawful hold to another."""
    judge_hold(crew, row, hold)
    judge_hold(crew, row, other)
    return distances(crew, row, kept_hold(hold))[kept_hold(other)]


def path(crew, row, hold, other):
    """The first of the shortest rows of lawful holds from one to another, each a move from the one ahead."""
    judge_hold(crew, row, hold)
    judge_hold(crew, row, other)
    left = distances(crew, row, kept_hold(other))
    here = kept_hold(hold)
    passed = [here]
    while left[here] > 0:
        nearer = [after for after in one_move_on(crew, row, here) if left[after] < left[here]]
        here = nearer[0]
        passed.append(here)
    return tuple(passed)


def is_held(hold, name):
    """Whether the bar of a puppet is in a hand."""
    return any([name in group for group in hold])


def is_alone(hold, name):
    """Whether the bar of a puppet is the only one in the hands of a player."""
    return any([name in group and len(group) == 1 for group in hold])


def behind(hold, deed):
    """The hold behind a deed."""
    if deed[0] == "exit":
        return without_bar(hold, deed[1])
    return kept_hold(hold)
