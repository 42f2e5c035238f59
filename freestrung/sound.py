"""Sound plays: those of which no row of calls comes to a flow that does not end."""

from freestrung.errors import Spoilt, TooMany
from freestrung.flows import flow
from freestrung.forms import is_row
from freestrung.names import is_name
from freestrung.pictures import is_picture, kept_picture

MOST_PAIRS = 1000


class Flows:
    """The flows of the calls of a play, each made once."""

    def __init__(self, play):
        self.play = play
        self.made = {}

    def shown(self, call, picture):
        """The flow of a call from a picture."""
        scene = self.play.plan.calls[call][1]
        if (scene, picture) not in self.made:
            self.made[scene, picture] = flow(self.play.book, scene, picture)
        return self.made[scene, picture]

    def pair_behind(self, call, picture):
        """The pair that a call leads to, or None if its flow does not end."""
        shown = self.shown(call, picture)
        if not shown:
            return None
        return self.play.plan.calls[call][2], shown.picture


def pairs_explored(flows):
    """The table of a sound play and None; otherwise None and the least row whose last flow does not end."""
    play = flows.play
    rows = {(play.plan.first, play.opening): ()}
    todo = list(rows)
    while len(todo) > 0:
        here = todo.pop(0)
        for call in play.plan.calls_at(here[0]):
            behind = flows.pair_behind(call, here[1])
            if behind is None:
                return None, rows[here] + (call,)
            if behind not in rows:
                if len(rows) == MOST_PAIRS:
                    raise TooMany("picture")
                rows[behind] = rows[here] + (call,)
                todo.append(behind)
    return tuple(list(rows)), None


def sound_pairs(flows):
    """The table of a sound play, whose flows are told; raises Spoilt for another one."""
    table, row = pairs_explored(flows)
    if row is not None:
        raise Spoilt(row)
    return table


def sound_table(play):
    """The table of a sound play; raises Spoilt for another one."""
    return sound_pairs(Flows(play))


def kept_pair(pair):
    """The pair of a node and a picture as tuples."""
    return pair[0], kept_picture(pair[1])


class Sound:
    """Whether a play is sound, and what tells that."""

    def __init__(self, play):
        table, row = pairs_explored(Flows(play))
        self.table = table
        self.row = row
        self.pairs = () if table is None else table

    def __bool__(self):
        return bool(self.row is None)

    def __len__(self):
        return len(self.pairs)

    def __iter__(self):
        return iter(self.pairs)

    def __contains__(self, x):
        if not is_row(x) or len(x) != 2 or not is_name(x[0]) or not is_picture(x[1]):
            return False
        return kept_pair(x) in self.pairs


def is_pair_of(play, thing):
    """Whether a thing is a pair of a node of the plan and a picture of the cast."""
    if not is_row(thing) or len(thing) != 2:
        return False
    return thing[0] in play.plan and is_picture(thing[1], play.book.cast)


def judge_pictures(play, table):
    """None if a table of pairs is closed, else the number of the first row that is wrong, or -1."""
    told = {kept_pair(row): True for row in table if is_pair_of(play, row)}
    if (play.plan.first, play.opening) not in told:
        return -1
    flows = Flows(play)
    for number, row in enumerate(table):
        if not is_pair_of(play, row):
            return number
        node, picture = kept_pair(row)
        if not all([flows.pair_behind(call, picture) in told for call in play.plan.calls_at(node)]):
            return number
    return None
