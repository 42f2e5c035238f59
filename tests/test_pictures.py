"""Points 3 and 4: pictures, their order, deeds, and the picture behind a deed."""

import itertools
import unittest

from freestrung.casts import Cast
from freestrung.errors import BadDeed
from freestrung.pictures import acted, fits, holds_in, is_picture, pictures
from tests.helpers import NO_NAMES, NO_ROWS, Case, listed, troupe

FIVE = Cast(tuple((name, ("j",)) for name in ("eve", "dan", "cat", "bob", "ann")))
TWO = (("king", "queen"), (0, 1))


class IsPictureTest(Case):
    def test_pictures(self):
        for thing in (((), ()), (("a",), (1,)), (("a", "b", "c", "d"), (0, 1, 0, 1)), TWO):
            self.assertIs(is_picture(thing), True)
            self.assertIs(is_picture(listed(thing)), True)

    def test_no_pictures(self):
        wrong = [(), ((),), ((), (), ()), (("a",), ()), ((), (0,)), (("a", "a"), (0, 0)), (("a",), (2,)),
                 (("a",), (-1,)), (("a",), (True,)), (("a",), (False,)), (("a",), (0.0,)), (("a",), ("0",)),
                 (("a", "b", "c", "d", "e"), (0,) * 5), ("a", (0,)), (("a",), 0), ({"a": 0}, (0,))]
        wrong = wrong + [((name,), (0,)) for name in NO_NAMES]
        for thing in wrong + list(NO_ROWS) + [object(), [[]], [[], [], []]]:
            self.assertIs(is_picture(thing), False)
            self.assertIs(is_picture(thing, troupe()), False)

    def test_of_a_cast(self):
        self.assertIs(is_picture(TWO, troupe()), True)
        self.assertIs(is_picture(TWO, cast=troupe()), True)
        self.assertIs(is_picture(listed(TWO), troupe()), True)
        self.assertIs(is_picture((("king", "bishop"), (0, 1)), troupe()), False)
        self.assertIs(is_picture((("king", "bishop"), (0, 1)), cast=None), True)

    def test_things_within_themselves(self):
        ring = []
        ring.append(ring)
        ring.append(ring)
        self.assertIs(is_picture(ring), False)


class PicturesTest(Case):
    def test_all_in_order(self):
        names = list(FIVE)
        wanted = []
        for many in range(5):
            for row in itertools.permutations(range(5), many):
                for faces in itertools.product((0, 1), repeat=many):
                    wanted.append((tuple(names[number] for number in row), faces))
        found = list(pictures(FIVE))
        self.assertEqual(found, wanted)
        self.assertEqual(len(found), 1 + 10 + 80 + 480 + 1920)
        for thing in found[::50]:
            self.assertIs(is_picture(thing, FIVE), True)

    def test_small_casts(self):
        one = list(pictures(Cast((("a", ("j",)),))))
        self.assertEqual(one, [((), ()), (("a",), (0,)), (("a",), (1,))])
        self.assertEqual(len(list(pictures(troupe()))), 1 + 6 + 24 + 48)

    def test_a_generator_does_nothing_at_first(self):
        self.assertEqual(next(iter(pictures(FIVE))), ((), ()))
        pictures(None)


class HoldsInTest(Case):
    def told(self, test, picture=(("king", "queen", "fool"), (0, 1, 0))):
        held = holds_in(picture, test)
        self.assertIs(holds_in(listed(picture), listed(test)), held)
        self.assertIsInstance(held, bool)
        return held

    def test_on_and_off(self):
        self.assertTrue(self.told(("on", "king")))
        self.assertFalse(self.told(("on", "page")))
        self.assertFalse(self.told(("off", "king")))
        self.assertTrue(self.told(("off", "page")))

    def test_faces(self):
        self.assertTrue(self.told(("front", "king")))
        self.assertFalse(self.told(("front", "queen")))
        self.assertFalse(self.told(("front", "page")))
        self.assertFalse(self.told(("back", "king")))
        self.assertTrue(self.told(("back", "queen")))
        self.assertFalse(self.told(("back", "page")))

    def test_left(self):
        self.assertTrue(self.told(("left", "king", "queen")))
        self.assertTrue(self.told(("left", "king", "fool")))
        self.assertFalse(self.told(("left", "fool", "king")))
        self.assertFalse(self.told(("left", "king", "king")))
        self.assertFalse(self.told(("left", "king", "page")))
        self.assertFalse(self.told(("left", "page", "king")))


THREE = (("king", "queen", "fool"), (0, 1, 0))
FOUR = (("king", "queen", "fool", "page"), (1, 1, 0, 1))

BEHIND = (
    (THREE, ("pass", "king", "queen", "right", "before"), (("queen", "king", "fool"), (1, 0, 0))),
    (THREE, ("pass", "king", "queen", "right", "any"), (("queen", "king", "fool"), (1, 0, 0))),
    (THREE, ("pass", "queen", "king", "left", "behind"), (("queen", "king", "fool"), (1, 0, 0))),
    (THREE, ("pass", "queen", "fool", "right", "behind"), (("king", "fool", "queen"), (0, 0, 1))),
    (THREE, ("pass", "fool", "queen", "left", "behind"), (("king", "fool", "queen"), (0, 0, 1))),
    (THREE, ("turn", "king", "left"), (("king", "queen", "fool"), (1, 1, 0))),
    (THREE, ("turn", "queen", "right"), (("king", "queen", "fool"), (0, 0, 0))),
    (THREE, ("turn", "fool", "any"), (("king", "queen", "fool"), (0, 1, 1))),
    (THREE, ("move", "king", "crown"), THREE),
    (THREE, ("move", "king", "tail"), THREE),
    (THREE, ("exit", "king", "before"), (("queen", "fool"), (1, 0))),
    (THREE, ("exit", "queen", "behind"), (("king", "fool"), (0, 0))),
    (THREE, ("exit", "fool", "any"), (("king", "queen"), (0, 1))),
    (THREE, ("enter", "page", "left"), (("page", "king", "queen", "fool"), (0, 0, 1, 0))),
    (THREE, ("enter", "page", "right"), (("king", "queen", "fool", "page"), (0, 1, 0, 0))),
    (((), ()), ("enter", "page", "right"), (("page",), (0,))),
    (THREE, ("rest",), THREE),
    (((), ()), ("rest",), ((), ())),
    (FOUR, ("rest",), FOUR),
)

UNFIT = (
    (THREE, ("pass", "king", "queen", "left", "any")),
    (THREE, ("pass", "king", "fool", "right", "any")),
    (THREE, ("pass", "king", "king", "right", "any")),
    (THREE, ("pass", "king", "page", "left", "any")),
    (THREE, ("pass", "page", "king", "right", "any")),
    (THREE, ("pass", "page", "fool", "left", "any")),
    (THREE, ("pass", "king", "fool", "left", "any")),
    (THREE, ("pass", "fool", "king", "right", "any")),
    (THREE, ("turn", "page", "any")),
    (THREE, ("move", "page", "foot")),
    (THREE, ("exit", "page", "any")),
    (THREE, ("enter", "king", "left")),
    (FOUR, ("enter", "maid", "left")),
    (FOUR, ("enter", "king", "left")),
)

NO_DEEDS = (
    (), ("rest", "rest"), ("stay",), ("pass", "king", "queen", "right"), ("turn", "king"), ("exit", "king", "left"),
    ("pass", "king", "queen", "right", "left"), ("pass", "king", "queen", "before", "any"), ("turn", "king", "before"),
    ("pass", "king", "queen", "right", "before", "any"), ("pass", "king", "right", "before"), ("enter", "page", "any"),
    ("move", "king"), ("move", "king", "end"), ("enter", "Page", "left"), ("exit", ("king",), "any"), (["rest"],),
    ("turn", "king", None), ("turn", "king", True), ("call", "king"), (None,), "rest", 7, None, {"rest": 1},
)


class DeedsTest(Case):
    def test_the_picture_behind(self):
        for picture, deed, wanted in BEHIND:
            self.assertIs(fits(picture, deed), True)
            self.assertIs(fits(listed(picture), listed(deed)), True)
            self.assertEqual(self.same_with_lists(acted, picture, deed), wanted)

    def test_what_does_not_fit(self):
        for picture, deed in UNFIT:
            self.assertIs(fits(picture, deed), False)
            self.due_as_passed(BadDeed, "deed", deed, acted, picture, deed)

    def test_what_is_no_deed(self):
        for deed in NO_DEEDS:
            self.assertIs(fits(THREE, deed), False)
            self.due_as_passed(BadDeed, "deed", deed, acted, THREE, deed)
        for name in NO_NAMES:
            self.assertIs(fits(THREE, ("turn", name, "left")), False)
            self.assertIs(fits(THREE, ("enter", name, "left")), False)

    def test_an_error_bears_a_list_as_it_is(self):
        deed = ["turn", "page", "any"]
        self.due_as_passed(BadDeed, "deed", deed, acted, THREE, deed)
        self.assertEqual(deed, ["turn", "page", "any"])


if __name__ == "__main__":
    unittest.main()
