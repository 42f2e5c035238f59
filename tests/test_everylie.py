"""Point 21: rows of passings, and whether two leave the same of every even lie."""

import random

from freestrung.errors import BadCords, BadPassing, TooMany, Uneven, Unlike
from freestrung.everylie import EveryLie, Passings, test_lies
from freestrung.lies import Lie
from tests.helpers import NO_ROWS, Case, listed, only_tuples
from tests.test_free import even_lie

WAYS = ("before", "behind")
OVER = (0, "before", "behind")
NO_CORDS = (0, 5, -1, True, None, "2", 2.0, (2,))


def random_row(rng, cords, most):
    return tuple((rng.randrange(cords - 1), rng.choice(WAYS), rng.choice(WAYS)) for _ in range(
        rng.randint(0, most) if cords > 1 else 0))


class PassingsTest(Case):
    def test_attributes(self):
        row = (OVER, (1, "behind", "behind"))
        passings = Passings(3, listed(row))
        self.assertEqual((passings.cords, passings.row), (3, row))
        self.assertTrue(only_tuples(passings.row))
        self.assertEqual(len(passings), 2)
        self.assertEqual(tuple(passings), row)
        self.assertEqual(len(Passings(1, ())), 0)

    def test_so_many(self):
        self.assertEqual(len(Passings(2, (OVER,) * 40)), 40)
        self.due(BadPassing(-1), Passings, 2, (OVER,) * 41)
        self.due(BadPassing(-1), Passings, 2, (None,) * 41)
        for thing in NO_ROWS:
            self.due(BadPassing(-1), Passings, 2, thing)

    def test_cords(self):
        for cords in (1, 2, 3, 4):
            self.assertEqual(Passings(cords, ()).cords, cords)
        for thing in NO_CORDS:
            self.due_as_passed(BadCords, "cords", thing, Passings, thing, None)

    def test_no_passings(self):
        wrong = NO_ROWS + ((), (0,), (0, "before"), (0, "before", "behind", 0), (2, "before", "behind"), (-1, *OVER[1:]),
                           (True, *OVER[1:]), (0.0, *OVER[1:]), (None, *OVER[1:]), (0, "any", "before"),
                           (0, "before", "any"), (0, None, "before"), (0, "before", 1), (0, ("before",), "before"),
                           (0, "left", "right"), ("before", "before", 0))
        for thing in wrong:
            self.due(BadPassing(0), Passings, 3, (thing, None))
            self.due(BadPassing(2), Passings, 3, (OVER, OVER, listed(thing)))
        self.due(BadPassing(0), Passings, 1, (OVER,))
        self.due(BadPassing(1), Passings, 2, (OVER, (1, "before", "before")))

    def test_what_they_make_of_a_lie(self):
        rng = random.Random(21)
        for _ in range(80):
            cords = rng.randint(1, 4)
            row = random_row(rng, cords, 4)
            lie = even_lie(rng, cords, 2)
            made = lie
            for place, top, shown in row:
                made = made.above(place, top).below(place, shown)
            self.assertEqual(Passings(cords, row)(lie), made)

    def test_lies_that_cannot_be_passed(self):
        passings = Passings(2, (OVER,))
        for cords in (0, 1, 3, 6):
            self.due(Unlike("cords"), passings, Lie.straight(cords))
        self.due(Unlike("cords"), passings, Lie.of(3, ((0, "before"),)))
        self.due(Uneven((1, 0)), passings, Lie.of(2, ((0, "before"),)))
        self.due(Uneven((1, 0)), Passings(2, ()), Lie.of(2, ((0, "before"),)))
        self.due(TooMany("letter"), Passings(3, (OVER, (1, "behind", "before")) * 20), Lie.straight(3))

    def test_joined(self):
        rng = random.Random(22)
        for _ in range(30):
            cords = rng.randint(2, 4)
            one, two = Passings(cords, random_row(rng, cords, 3)), Passings(cords, random_row(rng, cords, 3))
            both = one + two
            self.assertIsInstance(both, Passings)
            self.assertEqual((both.cords, both.row), (cords, one.row + two.row))
            self.assertEqual(both(Lie.straight(cords)), two(one(Lie.straight(cords))))
        self.due(Unlike("cords"), lambda: Passings(2, ()) + Passings(3, ()))
        full = Passings(2, (OVER,) * 20)
        self.assertEqual(len(full + full), 40)
        self.due(BadPassing(-1), lambda: full + Passings(2, (OVER,) * 21))
        self.assertEqual(len(full), 20)

    def test_equal(self):
        self.assertTrue(Passings(2, (OVER,)) == Passings(2, [list(OVER)]))
        for other in (Passings(3, (OVER,)), Passings(2, ()), Passings(2, ((0, "behind", "before"),)), (OVER,), None):
            self.assertFalse(Passings(2, (OVER,)) == other)
            self.assertTrue(Passings(2, (OVER,)) != other)

    def test_places(self):
        self.assertEqual(Passings(1, ()).places, (0,))
        self.assertEqual(Passings(4, ()).places, (0, 1, 2, 3))
        to_the_right = tuple((place, "before", "before") for place in (0, 1, 2))
        self.assertEqual(Passings(4, to_the_right).places, (3, 0, 1, 2))
        self.assertEqual(Passings(4, to_the_right[::-1]).places, (1, 2, 3, 0))
        rng = random.Random(23)
        for _ in range(30):
            row = random_row(rng, 4, 9)
            names = "abcd"
            for place, _, _ in row:
                names = names[:place] + names[place + 1] + names[place] + names[place + 2:]
            self.assertEqual(Passings(4, row).places, tuple(names.index(name) for name in "abcd"))

    def test_back(self):
        row = (OVER, (1, "behind", "behind"), (2, "before", "before"))
        back = Passings(4, row).back()
        self.assertEqual(back, Passings(4, ((2, "behind", "behind"), (1, "before", "before"), (0, "behind", "before"))))
        rng = random.Random(24)
        for _ in range(40):
            cords = rng.randint(1, 4)
            passings = Passings(cords, random_row(rng, cords, 4))
            self.assertEqual(passings.back().back(), passings)
            lie = even_lie(rng, cords, 2)
            self.assertEqual(passings.back()(passings(lie)), lie)
            self.assertEqual((passings + passings.back()).places, tuple(range(cords)))


def told_of(first, second):
    """What the point tells of two rows, by going through the test lies."""
    if first.places != second.places:
        return -1
    for number, lie in enumerate([Lie.straight(first.cords)] + [
            Lie.of(first.cords, ((place, "before"),) * 2) for place in range(first.cords - 1)]):
        if first(lie) != second(lie):
            return number
    return None


class EveryLieTest(Case):
    def test_alike_or_parted_by_a_test_lie(self):
        rng = random.Random(25)
        told = {}
        for _ in range(400):
            cords = rng.randint(1, 4)
            first = Passings(cords, random_row(rng, cords, 4))
            second = Passings(cords, random_row(rng, cords, 4))
            every = EveryLie(first, second)
            self.assertEqual(every.test, told_of(first, second))
            self.assertIs(bool(every), every.test is None)
            told[every.test] = told.get(every.test, 0) + 1
            parting = every.parting()
            if every.test in (None, -1):
                self.assertIsNone(parting)
            else:
                self.assertIsInstance(parting, Lie)
                self.assertEqual(parting, test_lies(cords)[every.test])
                self.assertNotEqual(first(parting), second(parting))
        self.assertLessEqual({None, -1, 0}, set(told))

    def test_alike_rows_leave_the_same_of_every_lie(self):
        rng = random.Random(26)
        alike = 0
        while alike < 25:
            cords = rng.randint(2, 4)
            first = Passings(cords, random_row(rng, cords, 4))
            second = Passings(cords, random_row(rng, cords, 4))
            if EveryLie(first, second):
                alike += len(first) > 0
                for _ in range(5):
                    lie = even_lie(rng, cords, 3)
                    self.assertEqual(first(lie), second(lie))

    def test_rows_that_only_the_rounds_part(self):
        # Both above and below once more round each other: the straight lie stays, another lie may not.
        for cords in (2, 3, 4):
            for place in range(cords - 1):
                around = Passings(cords, ((place, "before", "before"),) * 2)
                every = EveryLie(around, Passings(cords, ()))
                self.assertEqual(every.test, told_of(around, Passings(cords, ())))
        around = Passings(3, ((0, "before", "before"),) * 2)
        self.assertEqual(EveryLie(around, Passings(3, ())).test, 2)
        self.assertEqual(EveryLie(around, Passings(3, ())).parting(), Lie.rounded(3, 1))
        around = Passings(3, ((1, "before", "before"),) * 2)
        self.assertEqual(EveryLie(around, Passings(3, ())).test, 1)
        whole = Passings(2, ((0, "before", "before"),) * 2)
        self.assertIs(bool(EveryLie(whole, Passings(2, ()))), True)

    def test_unlike_places(self):
        every = EveryLie(Passings(2, (OVER,)), Passings(2, ()))
        self.assertEqual((every.test, bool(every), every.parting()), (-1, False, None))
        # Then no lie is looked at.
        wild = Passings(3, (OVER, (1, "behind", "before")) * 19)
        self.assertEqual(EveryLie(wild, wild + Passings(3, (OVER,))).test, -1)

    def test_too_many_letters(self):
        wild = Passings(3, (OVER, (1, "behind", "before")) * 18)
        self.due(TooMany("letter"), wild, Lie.straight(3))
        still = Passings(3, ())
        self.assertEqual(wild.places, still.places)
        self.due(TooMany("letter"), EveryLie, wild, still)
        self.due(TooMany("letter"), EveryLie, still, wild)
        self.due(TooMany("letter"), EveryLie, wild, wild)

    def test_too_many_letters_behind_the_lie_that_parts(self):
        # Each of these rows parts from the empty one at a lie told; only later lies have too many letters.
        rng = random.Random(27)
        found = 0
        while found < 3:
            row = Passings(4, random_row(rng, 4, 14))
            still = Passings(4, ())
            letters = [letters_on_the_way(row, lie) for lie in test_lies(4)]
            if row.places != still.places or max(letters) <= 2000 or letters[0] > 2000:
                continue
            if row(Lie.straight(4)) != Lie.straight(4):
                found += 1
                self.assertEqual(EveryLie(row, still).test, 0)

    def test_unlike_cords(self):
        self.due(Unlike("cords"), EveryLie, Passings(2, ()), Passings(3, ()))

    def test_the_test_lies(self):
        for cords in (1, 2, 3, 4):
            told = test_lies(cords)
            self.assertIsInstance(told, tuple)
            self.assertEqual(told, (Lie.straight(cords),) + tuple(
                Lie.of(cords, ((place, "before"), (place, "before"))) for place in range(cords - 1)))
        for thing in NO_CORDS:
            self.due_as_passed(BadCords, "cords", thing, test_lies, thing)



def letters_on_the_way(passings, lie):
    """The most letters of a lie behind some passing, up to the first that has too many."""
    most = 0
    try:
        for place, top, shown in passings:
            lie = lie.passed(place, top, shown)
            most = max(most, lie.weight + len(lie))
    except TooMany:
        return 2001
    return most
