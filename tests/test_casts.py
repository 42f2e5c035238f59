"""Points 2 and 3: names and casts."""

import unittest

from freestrung.casts import Cast
from freestrung.errors import BadCast, Twice, Unknown
from freestrung.names import WORDS, is_name
from tests.helpers import NO_NAMES, NO_ROWS, TROUPE, Case, listed, only_tuples

TOLD = ("puppet scene end pass turn move exit enter rest if else until repeat call left right before behind "
        "any on off front back opening first ends at row lie hold play do along still crew curtain")


class NamesTest(Case):
    def test_words(self):
        self.assertEqual(WORDS, tuple(TOLD.split(" ")))
        for word in WORDS:
            self.assertIs(is_name(word), False)

    def test_names(self):
        for name in ("a", "z", "king", "eightlet", "abcdefgh", "passes", "ha", "naa"):
            self.assertIs(is_name(name), True)

    def test_no_names(self):
        for thing in NO_NAMES:
            self.assertIs(is_name(thing), False)
        for thing in ("ninelette", "king ", " king", "ki-ng", "kinG", "a" * 9, "`", "{", 0, 1.5, object(), {}):
            self.assertIs(is_name(thing), False)


class CastTest(Case):
    def test_what_a_cast_tells(self):
        cast = Cast(TROUPE)
        self.assertEqual(cast.puppets, TROUPE)
        self.assertEqual(cast["fool"], ("bell", "nose", "hand"))
        self.assertEqual(len(cast), 3)
        self.assertEqual(list(cast), ["king", "queen", "fool"])
        self.assertEqual(cast.wires, (2, 1, 3))
        self.assertEqual([cast.index_of(name) for name in cast], [0, 1, 2])

    def test_what_is_in_it(self):
        cast = Cast(TROUPE)
        self.assertIs("king" in cast, True)
        for thing in NO_NAMES + NO_ROWS + ("crown", "bishop", 0, object()):
            self.assertIs(thing in cast, False)
            self.due_as_passed(Unknown, "name", thing, cast.index_of, thing)
            self.due_as_passed(Unknown, "name", thing, cast.__getitem__, thing)

    def test_bounds(self):
        five = tuple((name, ("j",)) for name in "abcde")
        self.assertEqual(len(Cast(five)), 5)
        self.assertEqual(len(Cast(five[:1])), 1)
        self.due(BadCast(-1), Cast, five + (("f", ("j",)),))
        self.due(BadCast(-1), Cast, ())
        for thing in NO_ROWS:
            self.due(BadCast(-1), Cast, thing)

    def test_joints(self):
        self.assertEqual(Cast((("a", ("x", "y", "z")),))["a"], ("x", "y", "z"))
        self.assertEqual(Cast((("a", ("a",)), ("b", ("a",)))).wires, (1, 1))
        for joints in ((), ("x", "y", "z", "w"), ("x", "x"), ("x", "end"), ("x", 1), "x", None, {"x": 1}):
            self.due(BadCast(1), Cast, (("b", ("x",)), ("a", joints)))

    def test_wrong_puppets(self):
        for name in NO_NAMES:
            self.due(BadCast(0), Cast, ((name, ("x",)),))
        for puppet in NO_ROWS + ((), ("a",), ("a", ("x",), 1)):
            self.due(BadCast(2), Cast, (("a", ("x",)), ("b", ("x",)), puppet))

    def test_the_first_wrong_one_is_told_and_goes_ahead_of_twice(self):
        good = ("a", ("x",))
        self.due(BadCast(1), Cast, (good, ("b", ()), ("c", ())))
        self.due(BadCast(2), Cast, (good, good, ("c", ())))
        self.due(BadCast(-1), Cast, (good, ("c", ())) * 3)
        self.due(Twice("a"), Cast, (good, ("b", ("x",)), ("a", ("y",)), ("b", ("y",))))
        self.due(Twice("b"), Cast, (good, ("b", ("x",)), ("b", ("y",)), ("a", ("y",))))

    def test_equal(self):
        self.assertEqual(Cast(TROUPE), Cast(listed(TROUPE)))
        self.assertNotEqual(Cast(TROUPE), Cast(TROUPE[::-1]))
        self.assertNotEqual(Cast(TROUPE), Cast(TROUPE[:2]))
        self.assertIs(Cast(TROUPE) == TROUPE, False)
        self.assertIs(Cast(TROUPE) == 1, False)

    def test_one_more(self):
        cast = Cast(TROUPE)
        longer = cast + ["page", ["foot"]]
        self.assertEqual(longer, Cast(TROUPE + (("page", ("foot",)),)))
        self.assertTrue(only_tuples(longer.puppets))
        self.assertEqual(cast, Cast(TROUPE))
        self.due(Twice("king"), lambda: cast + ("king", ("foot",)))
        self.due(BadCast(3), lambda: cast + ("page", ()))
        self.due(BadCast(3), lambda: cast + "page")
        five = longer + ("maid", ("foot",))
        self.due(BadCast(-1), lambda: five + ("page", ()))

    def test_lists(self):
        passed = listed(TROUPE)
        cast = Cast(passed)
        self.assertEqual(cast.puppets, TROUPE)
        self.assertTrue(only_tuples(cast.puppets))
        self.assertEqual(passed, listed(TROUPE))
        passed[0][1].append("foot")
        self.assertEqual(cast.puppets, TROUPE)


if __name__ == "__main__":
    unittest.main()
