"""Point 20: cords that hang straight by themselves, snags, and cords hung anew."""

import itertools
import random

from freestrung.cores import core
from freestrung.errors import BadPlace, Uneven
from freestrung.lies import Lie
from freestrung.snags import frees, hangs_straight, hung_anew, snags
from tests.helpers import Case, only_tuples
from tests.test_free import NO_PLACES, even_lies


def borromean():
    """Three cords that do not hang straight, while any two of them do."""
    round_left = Lie.rounded(3, 0)
    round_right = Lie.rounded(3, 1)
    return round_left * round_right * round_left.back() * round_right.back()


def parts(cords, least=0):
    """All sets of places, as the point orders them."""
    return [places for many in range(least, cords + 1) for places in itertools.combinations(range(cords), many)]


def others(cords, places):
    return tuple(place for place in range(cords) if place not in places)


class SnagsTest(Case):
    def lies(self):
        rng = random.Random(20)
        three = borromean()
        more = [three, three + Lie.rounded(2, 0), Lie.straight(1) + three + Lie.straight(2), Lie.rounded(6, 3),
                Lie.rounded(2, 0) + Lie.rounded(2, 0) + Lie.rounded(2, 0), three.passed(rng.randrange(2), "before", "before")]
        return more + even_lies(21, 12, 6)

    def test_cords_by_themselves(self):
        for lie in self.lies():
            for places in parts(len(lie)):
                told = self.same_with_lists(lambda places: hangs_straight(lie, places), places)
                self.assertIs(told, lie.thinned(places) == Lie.straight(len(places)))
                self.assertIs(self.same_with_lists(lambda places: frees(lie, places), places),
                              not lie.thinned(others(len(lie), places)))

    def test_snags(self):
        for lie in self.lies():
            found = [places for places in parts(len(lie), 2) if lie.thinned(places)
                     and not any(lie.thinned(part) for part in itertools.chain.from_iterable(
                         itertools.combinations(places, many) for many in range(len(places))))]
            self.assertEqual(snags(lie), tuple(found))
            self.assertTrue(only_tuples(snags(lie)))
            for snag in found:
                self.assertLessEqual(set(snag), set(core(lie)))

    def test_least_sets(self):
        for lie in self.lies():
            told = snags(lie)
            hitting = [places for places in parts(len(lie)) if all(set(places) & set(snag) for snag in told)]
            self.assertEqual(hung_anew(lie), tuple(places for places in hitting if len(places) == len(hitting[0])))
            for places in parts(len(lie)):
                self.assertIs(frees(lie, places), places in hitting)

    def test_examples(self):
        three = borromean()
        self.assertEqual(snags(three), ((0, 1, 2),))
        self.assertEqual(hung_anew(three), ((0,), (1,), (2,)))
        self.assertEqual(snags(Lie.rounded(4, 1)), ((1, 2),))
        two = three + Lie.rounded(2, 0)
        self.assertEqual(snags(two), ((3, 4), (0, 1, 2)))
        self.assertEqual(hung_anew(two), ((0, 3), (0, 4), (1, 3), (1, 4), (2, 3), (2, 4)))
        self.assertEqual(core(two), (0, 1, 2, 3, 4))

    def test_straight_lies(self):
        for cords in range(7):
            lie = Lie.straight(cords)
            self.assertEqual((snags(lie), hung_anew(lie)), ((), ((),)))
            self.assertIs(frees(lie, ()), True)
            self.assertIs(hangs_straight(lie, tuple(range(cords))), True)

    def test_uneven_goes_ahead(self):
        lie = Lie.of(3, ((1, "before"),))
        for call, more in ((hangs_straight, ((9,),)), (snags, ()), (hung_anew, ()), (frees, ((9,),))):
            self.due(Uneven((0, 2, 1)), call, lie, *more)

    def test_places(self):
        lie = Lie.rounded(3, 0)
        for call in (hangs_straight, frees):
            for thing in NO_PLACES + (3,):
                self.due_as_passed(BadPlace, "place", thing, call, lie, (thing, 9))
                if thing not in (0, 1):
                    self.due_as_passed(BadPlace, "place", thing, call, lie, [0, thing])
            for places, wrong in (((0, 0), 0), ((1, 0, 7), 0), ((0, 2, 1), 1), ((0, 1, 2, 2), 2), ((2, 3), 3)):
                self.due(BadPlace(wrong), call, lie, places)
        self.due(BadPlace(0), frees, Lie.straight(0), (0,))
