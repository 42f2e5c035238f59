"""Points 18 and 19: cords led to an end, free cords, exits and cores."""

import itertools
import random

from freestrung.cores import can_leave, core, exits
from freestrung.errors import BadPlace, BadRow, BadWay, TooMany, Uneven
from freestrung.free import hangs_apart, is_free, led_to_end
from freestrung.lies import Lie
from freestrung.tangles import crossed_above, crossed_below, letters_in
from tests.helpers import NO_ROWS, Case, only_tuples

WAYS = ("before", "behind")
OTHER = {"before": "behind", "behind": "before"}
NO_PLACES = (-1, True, False, None, "0", 0.0, (0,), [0])
NO_WAYS = ("any", "left", "", None, 0, ("before",), ["before"], b"before")


def even_lie(rng, cords, most):
    """An even lie, made by passings."""
    lie = Lie.straight(cords)
    for _ in range(rng.randint(0, most) if cords > 1 else 0):
        lie = lie.passed(rng.randrange(cords - 1), rng.choice(WAYS), rng.choice(WAYS))
    return lie


def even_lies(seed, times, most=5):
    rng = random.Random(seed)
    return [even_lie(rng, cords, most) for _ in range(times) for cords in range(7)]


def led(lie, place, way, side):
    """The lie when a cord goes to an end, passing its neighbours one by one."""
    while place > 0 if side == "left" else place < len(lie) - 1:
        if side == "left":
            place -= 1
            lie = lie.passed(place, OTHER[way], OTHER[way])
        else:
            lie = lie.passed(place, way, way)
            place += 1
    return lie


def is_apart(lie, side):
    """Whether the cord at an end hangs apart: the lie is that of the others, side by side with a straight one."""
    if len(lie) == 0:
        return False
    others = range(1, len(lie)) if side == "left" else range(len(lie) - 1)
    rest, one = lie.thinned(tuple(others)), Lie.straight(1)
    return lie == (one + rest if side == "left" else rest + one)


class LedToEndTest(Case):
    def test_against_one_passing_after_the_other(self):
        for lie in even_lies(18, 12, 4):
            for place, way, side in itertools.product(range(len(lie)), WAYS, ("left", "right")):
                told = led_to_end(lie, place, way, side)
                self.assertEqual(told, led(lie, place, way, side))
                self.assertEqual(led_to_end(lie, place, way, side=side), told)
                self.assertTrue(told.even)
                if side == "left":
                    self.assertEqual(led_to_end(lie, place, way), told)

    def test_straight_stays_straight(self):
        for cords in range(7):
            for place, way, side in itertools.product(range(cords), WAYS, ("left", "right")):
                self.assertEqual(led_to_end(Lie.straight(cords), place, way, side), Lie.straight(cords))

    def test_an_example(self):
        lie = Lie.rounded(3, 0)
        self.assertEqual(led_to_end(lie, 0, "before"), lie)
        self.assertEqual(led_to_end(lie, 2, "before", "right"), lie)
        # What goes to the left is the right one of the two that pass.
        self.assertEqual(led_to_end(lie, 1, "behind"), lie.passed(0, "before", "before"))
        self.assertEqual(led_to_end(lie, 1, "before", "right"), lie.passed(1, "before", "before"))
        self.assertNotEqual(led_to_end(lie, 1, "before", "right"), led_to_end(lie, 1, "behind", "right"))

    def test_too_many_letters(self):
        lie = heavy_lie()
        self.assertEqual(lie.weight, 1990)
        for place, side in ((2, "left"), (0, "right")):
            self.due(TooMany("letter"), led_to_end, lie, place, "before", side)
        self.assertEqual(led_to_end(lie, 0, "before"), lie)

    def test_too_many_letters_on_the_way_only(self):
        rng = random.Random(30)
        found = 0
        while found < 5:
            lie = grown(rng, 5)
            for place, way in itertools.product(range(5), WAYS):
                letters = [letters_in(words) for words in words_to_the_right(lie, place, way)]
                if letters and max(letters) > 2000:
                    self.due(TooMany("letter"), led_to_end, lie, place, way, "right")
                    found += letters[-1] <= 2000
                else:
                    led_to_end(lie, place, way, "right")


def grown(rng, cords):
    """A lie with some hundred letters."""
    lie = Lie.straight(cords)
    while lie.weight < 600:
        lie = lie.passed(rng.randrange(cords - 1), rng.choice(WAYS), rng.choice(WAYS))
    return lie


def words_to_the_right(lie, place, way):
    """The words behind each passing by which a cord is led to the right, however many letters they have."""
    words = lie.words
    for here in range(place, len(lie) - 1):
        words = crossed_below(crossed_above(words, here, way), here, way)
        yield words


class HangsApartTest(Case):
    def test_against_lies_side_by_side(self):
        told = []
        for lie in even_lies(19, 25, 4):
            for side in ("left", "right"):
                told.append(hangs_apart(lie, side))
                self.assertIs(told[-1], is_apart(lie, side))
        self.assertGreater(min(told.count(True), told.count(False)), 50)

    def test_without_cords_and_with_one(self):
        for side in ("left", "right"):
            self.assertIs(hangs_apart(Lie.straight(0), side), False)
            self.assertIs(hangs_apart(Lie.straight(1), side), True)

    def test_the_own_word_alone_is_not_enough(self):
        self.assertIs(hangs_apart(Lie.rounded(2, 0), "left"), False)
        for lie in even_lies(20, 60, 4):
            if len(lie) > 1 and lie[0] == (1,):
                others = {abs(letter) for word in lie.words[1:] for letter in word}
                self.assertIs(hangs_apart(lie, "left"), 1 not in others)


class IsFreeTest(Case):
    def test_by_leading_to_either_end(self):
        told = []
        for lie in even_lies(21, 20, 4):
            for place, way in itertools.product(range(len(lie)), WAYS):
                told.append(is_free(lie, place, way))
                self.assertIs(told[-1], is_apart(led(lie, place, way, "left"), "left"))
                self.assertIs(told[-1], is_apart(led(lie, place, way, "right"), "right"))
        self.assertGreater(min(told.count(True), told.count(False)), 100)

    def test_a_straight_lie(self):
        for cords in range(7):
            for place, way in itertools.product(range(cords), WAYS):
                self.assertIs(is_free(Lie.straight(cords), place, way), True)

    def test_free_in_one_way_only(self):
        one_way = [lie for lie in even_lies(23, 30, 4) for place in range(len(lie))
                   if is_free(lie, place, "before") != is_free(lie, place, "behind")]
        self.assertGreater(len(one_way), 5)

    def test_whatever_the_number_of_letters(self):
        lie = heavy_lie()
        told = {place: is_free(lie, place, "before") for place in range(3)}
        self.assertEqual(told, {0: False, 1: False, 2: True})
        self.assertIs(is_free(lie, 2, "behind"), True)

    def test_two_rounds_of_a_cord(self):
        self.assertIs(is_free(Lie.rounded(2, 0), 0, "before"), False)
        self.assertIs(is_free(Lie.rounded(3, 0), 2, "before"), True)
        self.assertIs(is_free(Lie.rounded(3, 1), 0, "behind"), True)


def heavy_lie():
    """A lie of three cords, of which two go round each other very often."""
    return Lie.of(3, ((0, "before"),) * 498)


class ErrorsTest(Case):
    def test_uneven_goes_ahead(self):
        lie = Lie.of(3, ((0, "before"), (1, "before")))
        for call, more in ((led_to_end, (9, "any")), (hangs_apart, ("left",)), (is_free, (9, "any")), (exits, ()),
                           (core, ()), (can_leave, (None,))):
            self.due(Uneven(lie.tops), call, lie, *more)
        self.assertEqual(lie.tops, (1, 2, 0))

    def test_places_and_ways(self):
        lie = Lie.rounded(3, 0)
        for call in (led_to_end, is_free):
            for thing in NO_PLACES + (3,):
                self.due_as_passed(BadPlace, "place", thing, call, lie, thing, "any")
            for thing in NO_WAYS:
                self.due_as_passed(BadWay, "way", thing, call, lie, 2, thing)
            self.due(BadPlace(0), call, Lie.straight(0), 0, "before")


class CoresTest(Case):
    def told(self, lie):
        """The exits, as the point tells them; and the cords that are left."""
        left, row = list(range(len(lie))), []
        while True:
            here = lie.thinned(left)
            free = [(place, way) for number, place in enumerate(left) for way in WAYS
                    if is_apart(led(here, number, way, "left"), "left")]
            if not free:
                return tuple(row), tuple(left)
            row.append(free[0])
            left.remove(free[0][0])

    def test_exits_and_cores(self):
        cores = set()
        for lie in even_lies(24, 25, 6):
            row, left = self.told(lie)
            self.assertEqual(exits(lie), row)
            self.assertEqual(core(lie), left)
            self.assertTrue(only_tuples(exits(lie)))
            self.assertIs(core(lie) == (), not lie)
            self.assertIs(can_leave(lie, row), True)
            cores.add(len(left))
        self.assertEqual(cores - {6, 5}, {0, 2, 3, 4})

    def test_straight_lies(self):
        for cords in range(7):
            lie = Lie.straight(cords)
            self.assertEqual(exits(lie), tuple((place, "before") for place in range(cords)))
            self.assertEqual(core(lie), ())

    def test_the_core_in_whatever_order_cords_leave(self):
        rng = random.Random(25)
        for lie in even_lies(26, 25, 5):
            left, row = list(range(len(lie))), []
            while True:
                free = [(place, way) for place in left for way in WAYS if can_leave(lie, tuple(row) + ((place, way),))]
                if not free:
                    break
                row.append(rng.choice(free))
                left.remove(row[-1][0])
            self.assertEqual(tuple(left), core(lie))
            self.assertIs(can_leave(lie, tuple(row)), True)

    def test_examples(self):
        self.assertEqual(core(Lie.rounded(4, 1)), (1, 2))
        self.assertEqual(exits(Lie.rounded(4, 1)), ((0, "before"), (3, "before")))
        self.assertEqual(core(Lie.rounded(2, 0) + Lie.straight(1) + Lie.rounded(2, 0)), (0, 1, 3, 4))


class CanLeaveTest(Case):
    def test_rows(self):
        lie = Lie.rounded(4, 1)
        for row, told in (((), True), (((0, "before"),), True), (((3, "behind"), (0, "behind")), True),
                          (((1, "before"),), False), (((0, "before"), (2, "before"), (3, "before")), False)):
            self.assertIs(self.same_with_lists(lambda row: can_leave(lie, row), row), told)

    def test_all_rows_of_two(self):
        for lie in even_lies(28, 12, 4):
            if len(lie) < 2:
                continue
            for (one, two), way, other in itertools.product(itertools.permutations(range(len(lie)), 2), WAYS, WAYS):
                rest = tuple(place for place in range(len(lie)) if place != one)
                told = is_free(lie, one, way) and is_free(lie.thinned(rest), rest.index(two), other)
                self.assertIs(can_leave(lie, ((one, way), (two, other))), told)

    def test_bad_rows(self):
        lie = Lie.rounded(4, 1)
        for thing in NO_ROWS:
            self.due(BadRow(-1), can_leave, lie, thing)
        wrong = NO_ROWS + ((), (0,), (0, "before", 0), (4, "before"), (-1, "before"), (True, "before"), (0, "any"),
                           (0, None), (None, "before"), ("before", 0), (0.0, "before"), ((0,), "before"))
        for thing in wrong:
            self.due(BadRow(0), can_leave, lie, (thing, None))
            # A row is judged whole, ahead of all that it says.
            self.due(BadRow(2), can_leave, lie, [[1, "before"], [2, "before"], thing])
        self.due(BadRow(1), can_leave, lie, ((0, "before"), (0, "behind")))
        self.due(BadRow(2), can_leave, lie, ((3, "before"), (0, "before"), (3, "before"), (0, "before")))
        self.due(BadRow(0), can_leave, Lie.straight(0), ((0, "before"),))
        self.assertIs(can_leave(Lie.straight(0), ()), True)
