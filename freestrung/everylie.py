"""Rows of passings, and whether two of them leave the same of every lie."""

from freestrung.errors import BadCords, BadPassing, Unlike
from freestrung.forms import is_one_of, is_row, is_within
from freestrung.free import judge_even
from freestrung.lies import Lie
from freestrung.rows import exchanged
from freestrung.tangles import WAYS, other_way

MOST_CORDS_PASSED = 4
MOST_PASSINGS = 40


def judge_cords_passed(cords):
    """Raises BadCords for what is no number of cords that can be in a row of passings."""
    if not is_within(cords, 1, MOST_CORDS_PASSED):
        raise BadCords(cords)


def is_passing(thing, cords):
    """Whether a thing is a triple of a place of so many cords and two ways."""
    if not is_row(thing) or len(thing) != 3 or not is_within(thing[0], 0, cords - 2):
        return False
    return is_one_of(thing[1], WAYS) and is_one_of(thing[2], WAYS)


class Passings:
    """A row of passings of some cords."""

    def __init__(self, cords, row):
        judge_cords_passed(cords)
        if not is_row(row) or len(row) > MOST_PASSINGS:
            raise BadPassing(-1)
        for number, passing in enumerate(row):
            if not is_passing(passing, cords):
                raise BadPassing(number)
        self.cords = cords
        self.row = tuple(tuple(passing) for passing in row)

    def __call__(self, lie):
        if len(lie) != self.cords:
            raise Unlike("cords")
        judge_even(lie)
        for place, top, shown in self.row:
            lie = lie.passed(place, top, shown)
        return lie

    def __len__(self):
        return len(self.row)

    def __iter__(self):
        return iter(self.row)

    def __eq__(self, other):
        return isinstance(other, Passings) and self.cords == other.cords and self.row == other.row

    def __add__(self, other):
        if self.cords != other.cords:
            raise Unlike("cords")
        return Passings(self.cords, self.row + other.row)

    @property
    def places(self):
        """For each place the one that it leads to."""
        order = tuple(range(self.cords))
        for passing in self.row:
            order = exchanged(order, passing[0])
        return tuple([order.index(place) for place in range(self.cords)])

    def back(self):
        """The row that undoes this one."""
        return Passings(self.cords, [(place, other_way(top), other_way(shown)) for place, top, shown in self.row[::-1]])


def test_lies(cords):
    """The straight lie, and the rounds at each place."""
    judge_cords_passed(cords)
    return (Lie.straight(cords),) + tuple([Lie.rounded(cords, place) for place in range(cords - 1)])


def parting_number(first, second):
    """The number of the first test lie of which two rows leave different ones; -1 for unlike places; or None."""
    if first.places != second.places:
        return -1
    for number, lie in enumerate(test_lies(first.cords)):
        if first(lie) != second(lie):
            return number
    return None


class EveryLie:
    """Whether two rows of passings leave the same of every even lie."""

    def __init__(self, first, second):
        if first.cords != second.cords:
            raise Unlike("cords")
        self.cords = first.cords
        self.test = parting_number(first, second)

    def __bool__(self):
        return bool(self.test is None)

    def parting(self):
        """The test lie that parts the two rows, or None."""
        if self.test is None or self.test == -1:
            return None
        return test_lies(self.cords)[self.test]
