"""Positions of a called evening, and the answers of a crew."""

from freestrung.errors import BadCall, NotThere
from freestrung.forms import is_row, is_whole
from freestrung.games import positions_explored
from freestrung.houses import house_of
from freestrung.names import is_name
from freestrung.standings import is_free_standing, is_standing, kept_parts


class Calling:
    """The rules of a called evening: a scene is called, and the crew answers by a playing."""

    def __init__(self, house):
        self.house = house

    def start(self):
        """The beginning."""
        node, standing = self.house.play.beginning
        return node, self.house.rig.stand(standing)

    def moves_at(self, position):
        """The calls that can be made."""
        return self.house.play.plan.calls_at(position[0])

    def answers_to(self, position, move):
        """The positions that the answers to a call lead to."""
        node = self.house.node_after(move)
        return [(node, stand) for stand in self.house.answers(move, position[1])]

    def is_bound(self, position):
        """Whether the evening may be ended, while the standing is not free."""
        return self.house.play.plan.is_end(position[0]) and not is_free_standing(position[1].held)


def positions(play, crew):
    """All positions that can come about, in the order in which they are found."""
    found, _ = positions_explored(Calling(house_of(play, crew)))
    return tuple([(node, stand.held) for node, stand in found])


def is_position(thing):
    """Whether a thing is a pair of a name and a standing, for whatever crew."""
    return is_row(thing) and len(thing) == 2 and is_name(thing[0]) and is_standing(thing[1])


def position_of(thing):
    """The position as tuples."""
    return thing[0], kept_parts(thing[1])


def kept_there(house, position):
    """The position as tuples; raises NotThere for what is none of this play and crew."""
    kept = house.kept_position(position)
    if kept is None:
        raise NotThere(position)
    return kept


def is_call_at(plan, node, call):
    """Whether a thing is the number of a call at a node."""
    return is_whole(call) and call in plan.calls_at(node)


def answers(play, crew, position, call):
    """All answers to a call at a position, each with the standing that it leads to."""
    house = house_of(play, crew)
    node, standing = kept_there(house, position)
    if not is_call_at(play.plan, node, call):
        raise BadCall(call)
    found = house.answers(call, house.rig.stand(standing))
    return tuple([(stand.held, playing) for stand, (_, playing) in found.items()])


def may_end(play, crew, position):
    """Whether the evening may be ended at a position, and the standing is free or bound; None if it may not."""
    node, standing = kept_there(house_of(play, crew), position)
    if not play.plan.is_end(node):
        return None
    return "free" if is_free_standing(standing) else "bound"
