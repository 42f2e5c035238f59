"""Casts: the puppets that there are, with their joints."""

from freestrung.errors import BadCast, Twice, Unknown
from freestrung.forms import are_names, first_twice, is_row
from freestrung.names import is_name

MOST_PUPPETS = 5
MOST_JOINTS = 3


def is_puppet(thing):
    """Whether a thing is a pair of a name and joints."""
    if not is_row(thing) or len(thing) != 2:
        return False
    return is_name(thing[0]) and are_names(thing[1], 1, MOST_JOINTS)


class Cast:
    """Some puppets, each a pair of its name and its joints."""

    def __init__(self, puppets):
        if not is_row(puppets) or not 1 <= len(puppets) <= MOST_PUPPETS:
            raise BadCast(-1)
        for number, puppet in enumerate(puppets):
            if not is_puppet(puppet):
                raise BadCast(number)
        self.puppets = tuple((name, tuple(joints)) for name, joints in puppets)
        self.names = tuple(name for name, _ in self.puppets)
        number = first_twice(self.names)
        if number is not None:
            raise Twice(self.names[number])

    def __getitem__(self, at):
        return self.puppets[self.index_of(at)][1]

    def __contains__(self, x):
        return isinstance(x, str) and x in self.names

    def __len__(self):
        return len(self.puppets)

    def __iter__(self):
        return iter(self.names)

    def __eq__(self, other):
        return isinstance(other, Cast) and self.puppets == other.puppets

    def __add__(self, other):
        return Cast(self.puppets + (other,))

    def index_of(self, name):
        """The number of the puppet of this name."""
        if name not in self:
            raise Unknown(name)
        return self.names.index(name)

    @property
    def wires(self):
        """For each puppet the number of its joints, which is that of its wires."""
        return tuple(len(joints) for _, joints in self.puppets)
