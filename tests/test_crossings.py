"""Points 15 (its end) and 17: how lies are unwound, their crossings, and cords with their wires."""

import random

from freestrung.crossings import crossings, unwinding
from freestrung.errors import BadWinds, BadWires, TooMany
from freestrung.lies import Lie
from freestrung.tangles import crossed_below, letters_in
from freestrung.wires import strung, unstrung
from tests.helpers import NO_ROWS, Case, only_tuples

WAYS = ("before", "behind")


def random_row(rng, cords, most):
    """A row of crossings."""
    if cords < 2:
        return ()
    return tuple((rng.randrange(cords - 1), rng.choice(WAYS)) for _ in range(rng.randint(0, most)))


def random_lies(seed, times, most=9):
    rng = random.Random(seed)
    return [Lie.of(cords, random_row(rng, cords, most)) for _ in range(times) for cords in range(7)]


class CrossingsTest(Case):
    def test_they_make_the_lie(self):
        for lie in random_lies(15, 40):
            row = crossings(lie)
            self.assertTrue(only_tuples(row))
            self.assertIsInstance(row, tuple)
            self.assertEqual(Lie.of(len(lie), row), lie)

    def test_by_the_first_crossing_that_leaves_fewer_letters(self):
        for lie in random_lies(16, 15, 6):
            row = []
            here = lie
            while here:
                place, way = next((place, way) for place in range(len(here) - 1) for way in WAYS
                                  if here.below(place, way).weight < here.weight)
                row.append((place, "behind" if way == "before" else "before"))
                here = here.below(place, way)
            self.assertEqual(crossings(lie), tuple(reversed(row)))

    def test_examples(self):
        for cords in range(7):
            self.assertEqual(crossings(Lie.straight(cords)), ())
        self.assertEqual(crossings(Lie.rounded(3, 1)), ((1, "before"), (1, "before")))
        self.assertEqual(crossings(Lie.of(2, ((0, "behind"),) * 5)), ((0, "behind"),) * 5)
        self.assertEqual(crossings(Lie.of(3, ((0, "before"), (1, "before"), (0, "before"), (1, "behind")))),
                         ((1, "before"), (0, "before")))

    def test_one_of_several_rows_that_make_a_lie(self):
        one = Lie.of(3, ((0, "before"), (1, "before"), (0, "before")))
        two = Lie.of(3, ((1, "before"), (0, "before"), (1, "before")))
        self.assertEqual(one, two)
        self.assertEqual(crossings(one), crossings(two))

    def test_a_heavy_lie(self):
        row = ((0, "before"),) * 500
        lie = Lie.of(2, row)
        self.assertEqual(lie.weight, 1998)
        self.assertEqual(crossings(lie), row)


class UnwindingTest(Case):
    def test_from_the_lie_to_the_straight_one(self):
        for lie in random_lies(17, 15):
            steps = list(unwinding(lie))
            self.assertEqual(steps[0], lie)
            self.assertEqual(steps[-1], Lie.straight(len(lie)))
            self.assertTrue(all(isinstance(step, Lie) for step in steps))
            row = crossings(lie)
            self.assertEqual(len(steps), len(row) + 1)
            for number, step in enumerate(steps):
                self.assertEqual(step, Lie.of(len(lie), row[:len(row) - number]))
            weights = [step.weight for step in steps]
            self.assertEqual(weights, sorted(set(weights), reverse=True))

    def test_lies_that_are_straight(self):
        for cords in range(7):
            self.assertEqual(list(unwinding(Lie.straight(cords))), [Lie.straight(cords)])

    def test_it_does_nothing_at_first(self):
        unwinding(None)


def random_strings(seed, times):
    """Lies with wires and winds, together at most 6 wires."""
    rng = random.Random(seed)
    for _ in range(times):
        wires = []
        while sum(wires) < 6 and rng.random() < 0.85:
            wires.append(rng.randint(1, min(3, 6 - sum(wires))))
        winds = [rng.randint(-3, 3) for _ in wires]
        yield Lie.of(len(wires), random_row(rng, len(wires), 5)), tuple(wires), tuple(winds)


class StrungTest(Case):
    def test_one_wire_each(self):
        for lie in random_lies(18, 5):
            ones = (1,) * len(lie)
            self.assertEqual(strung(lie, ones), lie)
            self.assertEqual(strung(lie, ones, (3,) * len(lie)), lie)

    def test_the_order_of_the_crossings(self):
        lie = Lie.of(2, ((0, "before"), (0, "behind"), (0, "behind")))
        self.assertEqual(lie, Lie.of(2, ((0, "behind"),)))
        for wires, row in (
            ((1, 1), ((0, "behind"),)), ((2, 1), ((1, "behind"), (0, "behind"))),
            ((1, 2), ((0, "behind"), (1, "behind"))),
            ((3, 2), tuple((place, "behind") for place in (2, 3, 1, 2, 0, 1))),
        ):
            self.assertEqual(strung(lie, wires), Lie.of(sum(wires), row))
        three = Lie.of(3, ((1, "before"), (0, "behind")))
        # At first the cords of 3 and 1 wires cross, which begin at 2; then the cords of 2 and 1, which begin at 0.
        self.assertEqual(strung(three, (2, 3, 1)), Lie.of(6, (
            (4, "before"), (3, "before"), (2, "before"), (1, "behind"), (0, "behind"))))

    def test_winds(self):
        straight = Lie.straight(2)
        for winds, row in (
            ((0, 0), ()), ((1, 0), ((0, "before"),)), ((-2, 0), ((0, "behind"),) * 2),
            ((0, 1), ((2, "before"), (3, "before"), (2, "before"))),
            ((3, -2), ((0, "before"),) * 3 + ((2, "behind"), (3, "behind"), (2, "behind")) * 2),
        ):
            self.assertEqual(strung(straight, (2, 3), winds), Lie.of(5, row))
        self.assertEqual(strung(straight, (2, 1), (1, 3)), Lie.of(3, ((0, "before"),)))

    def test_winds_are_told_for_the_places_above(self):
        crossed = Lie.of(2, ((0, "before"),))
        # The cord of the bar 0 stands at the right below.
        self.assertEqual(strung(crossed, (2, 2), (1, 0)), Lie.of(4, (
            (1, "before"), (2, "before"), (0, "before"), (1, "before"), (2, "before"))))
        self.assertEqual(strung(crossed, (1, 3), (0, -1)), Lie.of(4, (
            (0, "before"), (1, "before"), (2, "before"), (0, "behind"), (1, "behind"), (0, "behind"))))

    def test_without_cords(self):
        self.assertEqual(strung(Lie.straight(0), ()), Lie.straight(0))
        self.assertEqual(strung(Lie.straight(0), [], []), Lie.straight(0))
        self.assertEqual(strung(Lie.straight(1), (3,), (2,)), Lie.of(3, ((0, "before"), (1, "before"), (0, "before")) * 2))

    def test_thinned_to_first_wires(self):
        for lie, wires, winds in random_strings(19, 60):
            made = strung(lie, wires, winds)
            self.assertEqual(len(made), sum(wires))
            places = [sum(wires[:number]) for number in range(len(wires))]
            self.assertEqual(made.thinned(places), lie)

    def test_lists(self):
        lie = Lie.of(2, ((0, "before"),))
        self.same_with_lists(lambda wires, winds: strung(lie, wires, winds).words, (2, 2), (1, -1))
        self.same_with_lists(lambda wires: unstrung(lie, wires)[1], (1, 1))

    def test_bad_wires(self):
        lie = Lie.straight(3)
        for thing in NO_ROWS + ((), (1, 1), (1, 1, 1, 1), (None,)):
            self.due(BadWires(-1), strung, lie, thing, None)
        for thing, number in (((0, 9, 1), 0), ((1, 4, 1), 1), ((1, 1, True), 2), ((3, 3, None), 2), ((3, 3, 3.0), 2),
                              ((1, "1", 9), 1), ((1, -1, 1), 1), ((1, (1,), 1), 1)):
            self.due(BadWires(number), strung, lie, thing, None)
            self.due(BadWires(number), strung, lie, list(thing), "ab")

    def test_too_many_wires(self):
        self.assertEqual(len(strung(Lie.straight(2), (3, 3))), 6)
        self.assertEqual(len(strung(Lie.straight(6), (1,) * 6)), 6)
        self.due(TooMany("wire"), strung, Lie.straight(3), (3, 3, 1), "no winds")
        self.due(TooMany("wire"), strung, Lie.straight(6), (1, 1, 1, 1, 1, 2))

    def test_bad_winds(self):
        lie = Lie.straight(2)
        for thing in tuple(thing for thing in NO_ROWS if thing is not None) + ((), (1,), (0, 0, 0), (None,)):
            self.due(BadWinds(-1), strung, lie, (2, 2), thing)
        for thing, number in (((4, 0), 0), ((-4, 0), 0), ((0, True), 1), ((0, None), 1), ((3, "1"), 1), ((False, 9), 0)):
            self.due(BadWinds(number), strung, lie, (1, 2), thing)
        self.assertEqual(len(strung(lie, (1, 1), (3, -3))), 2)

    def test_too_many_letters(self):
        lie = Lie.of(2, ((0, "before"),) * 200)
        self.due(TooMany("letter"), strung, lie, (3, 3), (0, 0))
        self.due(BadWinds(1), strung, lie, (3, 3), (0, 4))
        self.assertEqual(strung(lie, (1, 1)), lie)

    def test_too_many_letters_on_the_way(self):
        # Each of the nine crossings of two bundles counts, and so do the lies that are not wound yet.
        bundles = tuple((place, "before") for place in (2, 3, 4, 1, 2, 3, 0, 1, 2))
        half = ((3, "before"), (4, "before"), (3, "before"))
        for times, winds, row in ((37, (0, 0), bundles * 37), (38, (0, 3), bundles * 38 + half * 3)):
            letters = [letters_in(words) for words in all_words(6, row)]
            self.assertLessEqual(letters[-1], 2000)
            self.assertGreater(max(letters), 2000)
            self.due(TooMany("letter"), strung, Lie.of(2, ((0, "before"),) * times), (3, 3), winds)
        self.assertGreater(letters[len(bundles) * 38 - 1], 2000)


class UnstrungTest(Case):
    def test_what_was_strung(self):
        for lie, wires, winds in random_strings(20, 150):
            got = unstrung(strung(lie, wires, winds), wires)
            self.assertEqual(got, (lie, tuple(wind if many > 1 else 0 for wind, many in zip(winds, wires))))
            self.assertTrue(only_tuples(got))
            self.assertIsInstance(got[0], Lie)

    def test_winds_of_whatever_size(self):
        for wind in (-40, 4, 7, 200):
            lie = Lie.of(2, ((0, "before" if wind > 0 else "behind"),) * abs(wind))
            self.assertEqual(unstrung(lie, (2,)), (Lie.straight(1), (wind,)))
        half = ((0, "behind"), (1, "behind"), (0, "behind"))
        self.assertEqual(unstrung(Lie.of(4, half * 5), (3, 1)), (Lie.straight(2), (-5, 0)))

    def test_what_no_cords_make(self):
        self.assertIsNone(unstrung(Lie.of(3, ((0, "before"),)), (1, 2)))
        self.assertIsNone(unstrung(Lie.of(3, ((0, "before"),)), (3,)))
        self.assertIsNone(unstrung(Lie.rounded(4, 1), (2, 2)))
        self.assertIsNone(unstrung(Lie.of(4, ((1, "before"), (2, "before"), (0, "before"), (1, "behind"))), (2, 2)))
        self.assertEqual(unstrung(Lie.of(4, ((1, "before"), (2, "before"), (0, "before"), (1, "before"))), (2, 2)),
                         (Lie.of(2, ((0, "before"),)), (0, 0)))

    def test_only_what_was_strung(self):
        rng = random.Random(21)
        none = 0
        for lie, wires, winds in random_strings(22, 80):
            made = strung(lie, wires, winds)
            if len(made) > 1:
                made = made.below(rng.randrange(len(made) - 1), rng.choice(WAYS))
            got = unstrung(made, wires)
            if got is None:
                none += 1
            elif all(abs(wind) <= 3 for wind in got[1]):
                self.assertEqual(strung(got[0], wires, got[1]), made)
        self.assertGreater(none, 20)

    def test_without_cords_and_with_one(self):
        self.assertEqual(unstrung(Lie.straight(0), ()), (Lie.straight(0), ()))
        self.assertEqual(unstrung(Lie.straight(1), [1]), (Lie.straight(1), (0,)))

    def test_bad_wires(self):
        lie = Lie.straight(4)
        for thing in NO_ROWS + ((), (1, 1), (3, 2), (4, 1), (0,), (-1, 3, 3)):
            self.due(BadWires(-1), unstrung, lie, thing)
        for thing, number in (((4,), 0), ((2, 2, 0), 2), ((5, -1), 0), ((1, 3, 0), 2), ((3, True), 1), ((None,), 0),
                              ((3, "1", 9), 1), ((1, 1, 1, 1.0), 3), ((9, None), 0), (("ab",), 0), ((1, (3,)), 1)):
            self.due(BadWires(number), unstrung, lie, thing)
            self.due(BadWires(number), unstrung, lie, list(thing))
        self.due(BadWires(-1), unstrung, Lie.straight(0), (0, 1))
        self.due(BadWires(0), unstrung, Lie.straight(0), (0,))

    def test_too_many_letters(self):
        # The first wires of the two cords go round each other so often that all their wires are too heavy.
        around = ((0, "before"), (1, "before")) + ((2, "before"),) * 100 + ((1, "behind"), (0, "behind"))
        lie = Lie.of(6, around)
        self.assertEqual(abs(lie.twist(0, 3)), 100)
        self.due(TooMany("letter"), unstrung, lie, (3, 3))
        self.assertIsNone(unstrung(Lie.of(6, ((0, "before"),) * 100), (3, 3)))


def all_words(cords, row):
    """The words of all lies that a row of crossings makes, however many letters they have."""
    words = Lie.straight(cords).words
    for place, way in row:
        words = crossed_below(words, place, way)
        yield words


class MoreTest(Case):
    def test_nothing_is_changed(self):
        lie = Lie.of(3, ((0, "before"), (1, "behind")))
        words = lie.words
        crossings(lie)
        list(unwinding(lie))
        strung(lie, (2, 2, 2), (1, 0, -1))
        unstrung(lie, (1, 2))
        self.assertEqual(lie.words, words)
