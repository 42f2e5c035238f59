"""Point 25: standings."""

import unittest

from freestrung.crews import Crew
from freestrung.errors import BadPicture
from freestrung.lies import Lie
from freestrung.standings import is_free_standing, is_standing, lie_of, picture_of, standing_of, wrong_part
from tests.helpers import NO_ROWS, Case, listed, only_tuples

ROUND = Lie.rounded(2, 0).words
GOOD = (("king", "queen"), (0, 1), (1, -1), ROUND, (("king", "queen"),))
EMPTY = ((), (), (), (), ())


def changed(part, thing, standing=GOOD):
    return standing[:part] + (thing,) + standing[part + 1:]


class IsStandingTest(Case):
    def told(self, thing, crew=None):
        told = is_standing(thing, crew)
        self.assertIs(is_standing(listed(thing), crew), told)
        self.assertIs(is_standing(thing, crew=crew), told)
        return told

    def test_standings(self):
        for thing in (GOOD, EMPTY, changed(2, (10 ** 39, -7)), changed(4, ()), changed(4, (("king",), ("queen",)))):
            self.assertIs(self.told(thing), True)
        self.assertIs(is_standing(GOOD), True)

    def test_wrong_parts(self):
        for part, things in (
            (0, ((), ("king",), ("king", "king"), ("king", "end"), ("king", 1), ("a", "b", "c", "d", "e"))),
            (1, ((), (0,), (0, 1, 0), (0, 2), (0, True), (False, 1), (0.0, 1), ("0", 1))),
            (2, ((), (0,), (0, 0, 0), (0, True), (0, 1.0), (0, None), ("0", 0))),
            (3, ((), ((1,),), Lie.straight(3).words, ((1, 2, -1), (1,)), ((2,), (1,)), ((1,), (True,)), (1, 2),
                 ((1,), (2, 0)), ((1, 2, -2), (2,)), Lie.straight(2))),
            (4, ((("fool",),), (("queen", "king"),), (("queen",), ("king",)), (("king",), ("king", "queen")),
                 ("king",))),
        ):
            for thing in things + NO_ROWS:
                word = ("row", "faces", "winds", "lie", "hold")[part]
                if part == 0 and thing in ((), ("king",)):
                    word = "faces"
                self.assertEqual(wrong_part(changed(part, thing)), word)
                self.assertIs(self.told(changed(part, thing)), False)
                self.assertIs(self.told(changed(part, thing), Crew(4)), False)

    def test_whatever_the_thing_is(self):
        for thing in NO_ROWS + ((), GOOD[:4], GOOD + ((),), object(), [GOOD], (1, 2, 3, 4, 5)):
            self.assertIs(is_standing(thing), False)
            self.assertIs(is_standing(thing, Crew(4)), False)
        ring = []
        ring.extend([ring] * 5)
        self.assertIs(is_standing(ring), False)

    def test_winds_for_a_crew(self):
        for winds in range(4):
            for wind in range(-4, 5):
                thing = changed(2, (0, wind))
                self.assertIs(self.told(thing, Crew(2, winds=winds)), -winds <= wind <= winds)

    def test_weight_for_a_crew(self):
        for bears in (0, 5, 6, 7, 60):
            self.assertIs(self.told(GOOD, Crew(2, bears=bears)), bears >= 6)
        heavy = changed(3, Lie.of(2, ((0, "before"),) * 16).words)
        self.assertIs(self.told(heavy), True)
        self.assertIs(self.told(heavy, Crew(2, bears=60)), False)

    def test_holds_for_a_crew(self):
        self.assertIs(self.told(GOOD, Crew(1, reach=1)), True)
        self.assertIs(self.told(GOOD, Crew(4, reach=0)), False)
        apart = changed(4, (("king",), ("queen",)))
        self.assertIs(self.told(apart, Crew(1)), False)
        self.assertIs(self.told(apart, Crew(2)), True)

    def test_a_big_hold_without_a_crew(self):
        row = ("a", "b", "c", "d")
        thing = (row, (0,) * 4, (0,) * 4, Lie.straight(4).words, (("a", "d"), ("b",), ("c",)))
        self.assertIs(self.told(thing), True)
        self.assertIs(self.told(thing, Crew(3, reach=3)), True)
        self.assertIs(self.told(thing, Crew(2, reach=3)), False)

    def test_a_big_lie_without_a_crew(self):
        self.assertIs(self.told(changed(3, Lie.of(2, ((0, "before"),) * 500).words)), True)
        word = (1, 2) * 250
        too_long = (word + (1,) + tuple(-letter for letter in reversed(word)), (1,) * 999)
        self.assertIs(self.told(changed(3, too_long)), False)


class OfStandingsTest(Case):
    def test_of_a_picture(self):
        for picture, standing in (
            (((), ()), EMPTY),
            ((("queen",), (1,)), (("queen",), (1,), (0,), ((1,),), ())),
            ((("a", "b", "c", "d"), (1, 0, 0, 1)),
             (("a", "b", "c", "d"), (1, 0, 0, 1), (0, 0, 0, 0), ((1,), (2,), (3,), (4,)), ())),
        ):
            self.assertEqual(self.same_with_lists(standing_of, picture), standing)
            self.assertIs(is_standing(standing, Crew(1, reach=0, beats=0, bears=0, winds=0)), True)
            self.assertIs(is_free_standing(standing), True)
            self.assertEqual(picture_of(standing), picture)

    def test_of_no_picture(self):
        for thing in NO_ROWS + ((("king",), (2,)), (("king",), (True,)), [["king"], []], (("a",) * 2, (0, 0))):
            self.due_as_passed(BadPicture, "picture", thing, standing_of, thing)

    def test_free(self):
        for standing, free in (
            (EMPTY, True), (GOOD, False), (changed(2, (0, 0)), False), (changed(3, ((1,), (2,))), False),
            (changed(3, ((1,), (2,)), changed(2, (0, 0))), True), (changed(3, ((1,), (2,)), changed(2, (0, 3))), False),
        ):
            self.assertIs(self.same_with_lists(is_free_standing, standing), free)

    def test_parts(self):
        self.assertEqual(self.same_with_lists(picture_of, GOOD), (("king", "queen"), (0, 1)))
        lie = lie_of(GOOD)
        self.assertIsInstance(lie, Lie)
        self.assertEqual(lie, Lie.rounded(2, 0))
        self.assertEqual(lie_of(listed(GOOD)), lie)
        self.assertTrue(only_tuples(lie_of(listed(GOOD)).words))
        self.assertEqual(lie_of(EMPTY), Lie.straight(0))


if __name__ == "__main__":
    unittest.main()
