"""Plans: which scene may be called when."""

from freestrung.errors import BadCall, BadPlan, BadRow, Stray, TooMany, Unknown
from freestrung.forms import are_names, is_row, is_within
from freestrung.links import reached
from freestrung.names import is_name

MOST_ENDS = 40
MOST_CALLS = 120
MOST_NODES = 40


def is_call(thing):
    """Whether a thing is a triple of names."""
    return is_row(thing) and len(thing) == 3 and all([is_name(name) for name in thing])


def are_calls(thing):
    """Whether a thing is a tuple of so many different calls as a plan can have."""
    if not is_row(thing) or len(thing) > MOST_CALLS or not all([is_call(call) for call in thing]):
        return False
    return len(set([tuple(call) for call in thing])) == len(thing)


def nodes_of(first, ends, calls):
    """All nodes that are named, each once, in order."""
    nodes = [first]
    for node, _, behind in calls:
        nodes.extend([node, behind])
    nodes.extend(ends)
    return tuple([node for number, node in enumerate(nodes) if node not in nodes[:number]])


def first_stray(nodes, ends, calls):
    """The first node that cannot be reached from the first one, or leads to no end, or None."""
    onward = {node: [call[2] for call in calls if call[0] == node] for node in nodes}
    backward = {node: [call[0] for call in calls if call[2] == node] for node in nodes}
    led_to = [nodes[0]] + reached(onward, nodes[:1])
    leading = list(ends) + reached(backward, ends)
    for node in nodes:
        if node not in led_to or node not in leading:
            return node
    return None


class Plan:
    """A first node, ends, and calls that lead from node to node."""

    def __init__(self, first, ends, calls):
        if not is_name(first):
            raise BadPlan("first")
        if not are_names(ends, 1, MOST_ENDS):
            raise BadPlan("ends")
        if not are_calls(calls):
            raise BadPlan("calls")
        self.first = first
        self.ends = tuple(ends)
        self.calls = tuple(tuple(call) for call in calls)
        self.named = nodes_of(first, self.ends, self.calls)
        if len(self.named) > MOST_NODES:
            raise TooMany("node")
        stray = first_stray(self.named, self.ends, self.calls)
        if stray is not None:
            raise Stray(stray)

    def __getitem__(self, at):
        if not is_within(at, 0, len(self.calls) - 1):
            raise BadCall(at)
        return self.calls[at]

    def __contains__(self, x):
        return isinstance(x, str) and x in self.named

    def __len__(self):
        return len(self.calls)

    def __iter__(self):
        return iter(self.calls)

    def __eq__(self, other):
        return (isinstance(other, Plan) and self.first == other.first
                and self.ends == other.ends and self.calls == other.calls)

    @property
    def nodes(self):
        """All nodes that the plan names, each once."""
        return self.named

    def calls_at(self, node):
        """The numbers of the calls at a node."""
        if node not in self:
            raise Unknown(node)
        return tuple([number for number, call in enumerate(self.calls) if call[0] == node])

    def is_end(self, node):
        """Whether a node is an end."""
        if node not in self:
            raise Unknown(node)
        return node in self.ends

    def node_behind(self, row):
        """The node that a row of calls leads to."""
        if not is_row(row):
            raise BadRow(-1)
        node = self.first
        for number, call in enumerate(row):
            if not is_within(call, 0, len(self.calls) - 1) or self.calls[call][0] != node:
                raise BadRow(number)
            node = self.calls[call][2]
        return node

    def is_evening(self, row):
        """Whether a row of calls leads to an end."""
        return self.node_behind(row) in self.ends
