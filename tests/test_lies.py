"""Points 13 to 16: words, lies, crossings, passings, products, backs, thinned lies, twists, rounds."""

import itertools
import random
import unittest

from freestrung.errors import BadCords, BadCrossing, BadLie, BadPlace, BadWay, TooMany, Unlike
from freestrung.lies import Lie
from freestrung.tangles import unwinding_row
from freestrung.words import back, joined, reduced
from tests.helpers import NO_ROWS, Case, listed, only_tuples

WAYS = ("before", "behind")
NO_WAYS = ("any", "left", "", None, True, 0, ("before",), ["before"])
EXAMPLE = ((1, 2, 1, -2, -1), (1, 2, -1))


def strike(letters):
    """A word reduced by striking one pair after the other, from the right."""
    letters = list(letters)
    for place in range(len(letters) - 2, -1, -1):
        if place + 1 < len(letters) and letters[place] == -letters[place + 1]:
            del letters[place:place + 2]
    return strike(letters) if any(a == -b for a, b in zip(letters, letters[1:])) else tuple(letters)


def is_lie(words):
    """Whether words are a lie, as [14] tells it."""
    middle = []
    for word in words:
        half = len(word) // 2
        turned = tuple(-letter for letter in reversed(word[:half]))
        if len(word) % 2 == 0 or strike(word) != word or word[half] <= 0 or word[half + 1:] != turned:
            return False
        middle.append(word[half])
    whole = strike(sum(words, ()))
    return sorted(middle) == list(range(1, len(words) + 1)) and whole == tuple(range(1, len(words) + 1))


def other(way):
    return "behind" if way == "before" else "before"


def undone(row):
    return tuple((place, other(way)) for place, way in reversed(row))


def random_rows(seed, many, least=1, longest=12):
    """Random rows of crossings, with their numbers of cords."""
    chance = random.Random(seed)
    for _ in range(many):
        cords = chance.randint(least, 6)
        length = chance.randint(0, longest) if cords > 1 else 0
        yield cords, tuple((chance.randrange(cords - 1), chance.choice(WAYS)) for _ in range(length))


def strands(cords, row):
    """For each crossing of a row the places above of the left and the right cord; and where all end."""
    tops = list(range(cords))
    met = []
    for place, _ in row:
        met.append((tops[place], tops[place + 1]))
        tops[place], tops[place + 1] = tops[place + 1], tops[place]
    return met, tuple(tops)


def thinned_row(cords, row, places):
    """The row of crossings of some cords alone."""
    tops = list(range(cords))
    thin = []
    for place, way in row:
        if tops[place] in places and tops[place + 1] in places:
            thin.append((sum(1 for top in tops[:place] if top in places), way))
        tops[place], tops[place + 1] = tops[place + 1], tops[place]
    return tuple(thin)


class WordsTest(Case):
    def test_reduced(self):
        for letters, word in (
            ((), ()), ((1,), (1,)), ((1, -1), ()), ((-1, 1), ()), ((1, 1), (1, 1)), ((1, 2, -2, -1), ()),
            ((1, 2, -2, 1), (1, 1)), ((1, -1, 1), (1,)), ((3, 1, 2, -2, -1, -3, 4), (4,)), ((1, 2, -1), (1, 2, -1)),
            ((10 ** 39, -10 ** 39), ()),
        ):
            self.assertEqual(self.same_with_lists(reduced, letters), word)

    def test_back(self):
        for word, turned in (((), ()), ((1,), (-1,)), ((1, 2, -3), (3, -2, -1)), ((1, 1), (-1, -1))):
            self.assertEqual(self.same_with_lists(back, word), turned)
            self.assertEqual(joined(word, back(word)), ())
            self.assertEqual(joined(back(word), word), ())

    def test_joined(self):
        self.assertEqual(joined(), ())
        self.assertEqual(joined((1, 2)), (1, 2))
        self.assertEqual(self.same_with_lists(joined, (1, 2), (-2, 3), (-3, -1, 4)), (4,))
        self.assertEqual(joined((1,), (), (-1,), (2, -2, 3)), (3,))

    def test_random_words(self):
        chance = random.Random(13)
        for _ in range(300):
            letters = tuple(chance.choice((1, 2, -1, -2)) for _ in range(chance.randint(0, 14)))
            cut = chance.randint(0, len(letters))
            self.assertEqual(reduced(letters), strike(letters))
            self.assertEqual(joined(letters[:cut], letters[cut:]), strike(letters))


class LieTest(Case):
    def test_what_a_lie_tells(self):
        lie = Lie(((1, 2, -1), (1,)))
        self.assertEqual(lie.words, ((1, 2, -1), (1,)))
        self.assertEqual((len(lie), list(lie), lie[0], lie[1]), (2, [(1, 2, -1), (1,)], (1, 2, -1), (1,)))
        self.assertEqual((lie.tops, lie.even, lie.weight, bool(lie)), ((1, 0), False, 2, True))
        self.assertEqual((Lie(EXAMPLE).tops, Lie(EXAMPLE).even, Lie(EXAMPLE).weight), ((0, 1), True, 6))
        for cords in range(7):
            lie = Lie(tuple((number,) for number in range(1, cords + 1)))
            self.assertEqual((len(lie), lie.even, lie.weight, bool(lie)), (cords, True, 0, False))
            self.assertEqual(lie, Lie.straight(cords))
            self.assertEqual(lie.tops, tuple(range(cords)))

    def test_places(self):
        for thing in (-1, 2, True, False, None, "0", 0.0, (0,), 10 ** 39):
            self.due_as_passed(BadPlace, "place", thing, Lie(EXAMPLE).__getitem__, thing)

    def test_equal(self):
        self.assertEqual(Lie(EXAMPLE), Lie(listed(EXAMPLE)))
        self.assertNotEqual(Lie(EXAMPLE), Lie.straight(2))
        self.assertNotEqual(Lie.straight(3), Lie.straight(2))
        self.assertIs(Lie(EXAMPLE) == EXAMPLE, False)

    def test_lists(self):
        passed = listed(EXAMPLE)
        lie = Lie(passed)
        self.assertEqual(lie.words, EXAMPLE)
        self.assertTrue(only_tuples(lie.words))
        self.assertEqual(passed, listed(EXAMPLE))
        self.assertIs(Lie.is_one(passed), True)

    def wrong(self, place, words):
        self.due(BadLie(place), Lie, words)
        self.due(BadLie(place), Lie, listed(words))
        self.assertIs(Lie.is_one(words), False)

    def test_no_words(self):
        for thing in NO_ROWS:
            self.due(BadLie(-1), Lie, thing)
            self.assertIs(Lie.is_one(thing), False)
            self.due(BadLie(-1), Lie, ((1,), thing))
            self.assertIs(Lie.is_one(((1,), thing)), False)
        for letter in (0, 3, -3, True, 1.0, "1", None, (1,)):
            self.wrong(-1, ((1,), (letter,)))
            self.wrong(-1, ((1, letter, 1), (2,)))
        self.wrong(-1, tuple((number,) for number in range(1, 8)))
        self.assertIs(Lie.is_one(Lie(EXAMPLE)), False)

    def test_wrong_words(self):
        self.wrong(0, ((), (2,)))
        self.wrong(1, ((1,), (2, 1)))
        self.wrong(1, ((1,), (-2,)))
        self.wrong(0, ((2, 1, 2), (2,)))
        self.wrong(1, ((1,), (1, 2, 1)))
        self.wrong(0, ((1, -1, 1, -1, 1), (2,)))
        self.wrong(0, ((1, -1, 2, 1, -1), (2,)))
        self.wrong(2, ((1,), (2,), (2, -2, 3, 2, -2)))
        self.wrong(0, ((2, -1, -2), (-1,)))

    def test_no_lies(self):
        self.wrong(2, ((2,), (1,)))
        self.wrong(2, ((1,), (1,)))
        self.wrong(2, ((1, 2, -1), (2,)))
        self.wrong(2, ((2, 1, -2), (2,))[::-1])
        self.wrong(3, ((1,), (3,), (2,)))
        self.assertIs(Lie.is_one(()), True)
        self.assertIs(Lie.is_one(((1,),)), True)

    def test_order(self):
        long = (1, 2) * 1000
        self.due(BadLie(-1), Lie, (long, (1,), ("x",)))
        self.due(TooMany("letter"), Lie, (long, (1,)))
        self.due(BadLie(0), Lie, (long[1:], (1,)))
        self.due(BadLie(0), Lie, ((1, 1), (2, 2)))
        self.due(BadLie(1), Lie, ((2,), (1, 1)))

    def test_all_small_words(self):
        words = [word for length in (0, 1, 2, 3, 5) for word in itertools.product((1, -1, 2, -2), repeat=length)]
        found = 0
        for pair in itertools.product(words[:85], repeat=2):
            self.assertIs(Lie.is_one(pair), is_lie(pair))
            found += is_lie(pair)
        self.assertEqual(found, 3)

    def test_the_letters_of_a_lie(self):
        # 499 crossings of two cords give a lie of 1,996 letters, and each one more has four letters more.
        row = ((0, "before"),) * 500
        lie = Lie.of(2, row[:499])
        self.assertEqual(lie.weight, 1994)
        most = Lie.of(2, row)
        self.assertEqual(most.weight, 1998)
        self.assertIs(Lie.is_one(most.words), True)
        self.assertEqual(Lie(most.words), most)
        self.due(TooMany("letter"), Lie.of, 2, row + ((0, "before"),))
        left, right = most.words
        longer = (joined(left, right, back(left)), left)
        self.assertTrue(is_lie(longer))
        self.assertIs(Lie.is_one(longer), False)
        self.due(TooMany("letter"), Lie, longer)
        self.due(TooMany("letter"), Lie.of, 2, row + ((0, "before"), (0, "behind")))
        self.due(TooMany("letter"), most.below, 0, "before")
        self.due(TooMany("letter"), most.above, 0, "behind")
        self.due(TooMany("letter"), most.passed, 0, "behind", "before")
        self.assertEqual(most.passed(0, "before", "before"), most)
        self.assertEqual(most.passed(0, "behind", "behind"), most)
        self.assertEqual(most.below(0, "behind"), lie)
        self.assertEqual(most.twist(0, 1), 500)
        self.assertEqual(most.back().twist(0, 1), -500)
        self.assertEqual(most.thinned((0, 1)), most)
        self.due(TooMany("letter"), lambda: most * most)
        self.assertEqual(most * most.back(), Lie.straight(2))
        self.assertEqual((-most).weight, 1998)
        self.due(TooMany("letter"), lambda: most + Lie(EXAMPLE))
        self.due(TooMany("cord"), lambda: most + Lie.straight(5))


class CrossedTest(Case):
    def test_the_example(self):
        lie = Lie.straight(2).passed(0, "behind", "before")
        self.assertEqual(lie.words, EXAMPLE)
        self.assertEqual(lie.weight, 6)
        self.assertEqual(lie.passed(0, "before", "behind"), Lie.straight(2))

    def test_crossed_once(self):
        straight = Lie.straight(3)
        for place, way, words in (
            (0, "before", ((1, 2, -1), (1,), (3,))), (0, "behind", ((2,), (-2, 1, 2), (3,))),
            (1, "before", ((1,), (2, 3, -2), (2,))), (1, "behind", ((1,), (3,), (-3, 2, 3))),
        ):
            self.assertEqual(straight.below(place, way).words, words)
        for place, way, words in (
            (0, "before", ((2,), (-2, 1, 2), (3,))), (0, "behind", ((1, 2, -1), (1,), (3,))),
            (1, "before", ((1,), (3,), (-3, 2, 3))), (1, "behind", ((1,), (2, 3, -2), (2,))),
        ):
            self.assertEqual(straight.above(place, way).words, words)

    def test_by_the_letters_of_the_document(self):
        for cords, row in random_rows(15, 60, least=2):
            lie = Lie.of(cords, row)
            for place in range(cords - 1):
                v, w = lie.words[place:place + 2]
                i, j = place + 1, place + 2
                below = {"before": (joined(v, w, back(v)), v), "behind": (w, joined(back(w), v, w))}
                above = {"before": {i: (j,), j: (-j, i, j)}, "behind": {i: (i, j, -i), j: (i,)}}
                for way in WAYS:
                    wanted = lie.words[:place] + below[way] + lie.words[place + 2:]
                    self.assertEqual(lie.below(place, way).words, wanted)
                    images = {k: above[way].get(k, (k,)) for k in range(1, cords + 1)}
                    images.update({-k: back(word) for k, word in list(images.items())})
                    wanted = tuple(joined(*(images[k] for k in word)) for word in lie)
                    self.assertEqual(lie.above(place, way).words, wanted)

    def test_what_is_crossed_is_a_lie(self):
        for cords, row in random_rows(16, 80, least=2):
            lie = Lie.of(cords, row)
            self.assertTrue(is_lie(lie.words))
            self.assertTrue(only_tuples(lie.words))
            for place in range(cords - 1):
                for top in WAYS:
                    below, above = lie.below(place, top), lie.above(place, top)
                    self.assertTrue(is_lie(below.words) and is_lie(above.words))
                    self.assertEqual(below, Lie.of(cords, row + ((place, top),)))
                    self.assertEqual(above, Lie.of(cords, ((place, other(top)),) + row))
                    for shown in WAYS:
                        passed = lie.passed(place, top, shown)
                        self.assertTrue(is_lie(passed.words))
                        self.assertEqual(passed, above.below(place, shown))
                        self.assertEqual(passed, lie.below(place, shown).above(place, top))
                        self.assertEqual(passed.passed(place, other(top), other(shown)), lie)
            self.assertEqual(lie, Lie.of(cords, row))

    def test_passed_alike_stays_straight_and_even_stays_even(self):
        for cords in range(2, 7):
            for place in range(cords - 1):
                for way in WAYS:
                    self.assertEqual(Lie.straight(cords).passed(place, way, way), Lie.straight(cords))
                    lie = Lie.rounded(cords, place).passed(cords - 2, way, other(way))
                    self.assertTrue(lie.even)

    def test_within_a_passing_only_the_result_counts(self):
        row = ((0, "before"),) * 500
        most = Lie.of(2, row)
        self.due(TooMany("letter"), most.above, 0, "behind")
        self.due(TooMany("letter"), most.below, 0, "before")
        self.assertEqual(most.passed(0, "behind", "behind"), most)

    def test_errors(self):
        lie = Lie(EXAMPLE)
        for call in (lie.below, lie.above):
            for place in (-1, 1, 2, True, False, None, "0", 0.0, (0,)):
                self.due_as_passed(BadPlace, "place", place, call, place, "any")
            for way in NO_WAYS:
                self.due_as_passed(BadWay, "way", way, call, 0, way)
        for way in NO_WAYS:
            self.due(BadPlace(1), lie.passed, 1, way, way)
            self.due_as_passed(BadWay, "way", way, lie.passed, 0, way, "left")
            self.due_as_passed(BadWay, "way", way, lie.passed, 0, "before", way)
        for cords in (0, 1):
            self.due(BadPlace(0), Lie.straight(cords).below, 0, "before")
            self.due(BadPlace(0), Lie.straight(cords).passed, 0, "before", "before")


class MadeTest(Case):
    def test_of(self):
        self.assertEqual(Lie.of(2, ((0, "before"),)).words, ((1, 2, -1), (1,)))
        self.assertEqual(Lie.of(0, ()), Lie.straight(0))
        self.assertEqual(Lie.of(6, ()), Lie.straight(6))
        made = self.same_with_lists(lambda row: Lie.of(3, row).words, ((0, "before"), (1, "behind")))
        self.assertEqual(made, Lie.straight(3).below(0, "before").below(1, "behind").words)

    def test_errors(self):
        for cords in (-1, 7, True, False, None, "2", 2.0, (2,)):
            self.due_as_passed(BadCords, "cords", cords, Lie.of, cords, None)
            self.due_as_passed(BadCords, "cords", cords, Lie.straight, cords)
            self.due_as_passed(BadCords, "cords", cords, Lie.rounded, cords, None)
        for thing in NO_ROWS:
            self.due(BadCrossing(-1), Lie.of, 3, thing)
        good = (0, "before")
        for thing in NO_ROWS + ((), (0,), (0, "any"), (2, "before"), (-1, "before"), (True, "before"), (0, "before", 0),
                                ("0", "before"), (None, "before"), (0, None), (0, ["before"])):
            self.due(BadCrossing(1), Lie.of, 3, (good, thing, None))
        self.due(BadCrossing(0), Lie.of, 1, (good,))
        self.due(BadCrossing(0), Lie.of, 0, (good,))
        self.due(BadCrossing(501), Lie.of, 2, (good,) * 501 + ((1, "before"),))

    def test_rounded(self):
        self.assertEqual(Lie.rounded(2, 0).words, EXAMPLE)
        for cords in range(2, 7):
            for place in range(cords - 1):
                lie = Lie.rounded(cords, place)
                self.assertEqual(lie, Lie.of(cords, ((place, "before"),) * 2))
                self.assertTrue(lie.even)
            for thing in (-1, cords - 1, True, None, "0"):
                self.due_as_passed(BadPlace, "place", thing, Lie.rounded, cords, thing)
        self.due(BadPlace(0), Lie.rounded, 1, 0)
        self.due(BadPlace(0), Lie.rounded, 0, 0)


class UnwoundTest(Case):
    def test_at_the_first_place_where_letters_go(self):
        for cords, row in random_rows(23, 80, longest=16):
            lie = Lie.of(cords, row)
            told = []
            while lie:
                eased = [(place, way) for place in range(cords - 1) for way in WAYS
                         if lie.below(place, way).weight < lie.weight]
                told.append(eased[0])
                lie = lie.below(*eased[0])
            words = Lie.of(cords, row).words
            self.assertEqual(tuple(unwinding_row(words)), tuple(told))
            self.assertEqual(Lie.of(cords, undone(told)).words, words)


class OfLiesTest(Case):
    def test_products(self):
        rows = list(random_rows(17, 60))
        for (cords, row), (_, more) in zip(rows, rows[1:]):
            more = tuple((place, way) for place, way in more if place < cords - 1)
            lie, lower = Lie.of(cords, row), Lie.of(cords, more)
            self.assertEqual(lie * lower, Lie.of(cords, row + more))
            self.assertTrue(is_lie((lie * lower).words))
        self.due(Unlike("cords"), lambda: Lie.straight(2) * Lie.straight(3))
        self.assertEqual(Lie.straight(0) * Lie.straight(0), Lie.straight(0))

    def test_backs(self):
        for cords, row in random_rows(18, 80, longest=14):
            lie = Lie.of(cords, row)
            turned = lie.back()
            self.assertTrue(is_lie(turned.words))
            self.assertEqual(turned, Lie.of(cords, undone(row)))
            self.assertFalse(lie * turned)
            self.assertFalse(turned * lie)
            self.assertEqual(turned.back(), lie)

    def test_a_back_of_too_many_letters(self):
        chance = random.Random(3)
        found = {True: 0, False: 0}
        for _ in range(40):
            lie = Lie.straight(4)
            for _ in range(60):
                try:
                    lie = lie.below(chance.randrange(3), chance.choice(WAYS))
                except TooMany:
                    continue
            try:
                self.assertFalse(lie * lie.back())
                found[True] += 1
            except TooMany as error:
                self.assertEqual(error.word, "letter")
                found[False] += 1
        self.assertTrue(found[True] and found[False], found)

    def test_side_by_side(self):
        rows = list(random_rows(19, 80))
        for (cords, row), (others, more) in zip(rows, rows[1:]):
            lie, right = Lie.of(cords, row), Lie.of(others, more)
            if cords + others > 6:
                self.due(TooMany("cord"), lambda: lie + right)
                continue
            both = lie + right
            self.assertEqual(both, Lie.of(cords + others, row + tuple((place + cords, way) for place, way in more)))
            self.assertTrue(is_lie(both.words))
        self.assertEqual(Lie(EXAMPLE) + Lie.straight(0), Lie(EXAMPLE))
        self.assertEqual(Lie.straight(0) + Lie(EXAMPLE), Lie(EXAMPLE))
        self.assertEqual((Lie.straight(1) + Lie(EXAMPLE)).words, ((1,), (2, 3, 2, -3, -2), (2, 3, -2)))
        self.assertEqual(len(Lie.straight(3) + Lie.straight(3)), 6)
        self.due(TooMany("cord"), lambda: Lie.straight(3) + Lie.straight(4))

    def test_mirrored(self):
        self.assertEqual((-Lie(((1, 2, -1), (1,)))).words, ((2,), (-2, 1, 2)))
        for cords, row in random_rows(20, 60):
            lie = Lie.of(cords, row)
            self.assertEqual(-lie, Lie.of(cords, tuple((cords - 2 - place, other(way)) for place, way in row)))
            self.assertTrue(is_lie((-lie).words))
            self.assertEqual((-lie).weight, lie.weight)
            self.assertEqual(-(-lie), lie)

    def test_thinned(self):
        for cords, row in random_rows(21, 60):
            lie = Lie.of(cords, row)
            for many in range(cords + 1):
                for places in itertools.combinations(range(cords), many):
                    thin = lie.thinned(places)
                    self.assertEqual(thin, Lie.of(many, thinned_row(cords, row, places)))
                    self.assertTrue(is_lie(thin.words))
                    self.assertEqual(lie.thinned(list(places)), thin)
        for places, wrong in (
            ((0, 0), 0), ((1, 0), 0), ((0, 3), 3), ((-1,), -1), ((3,), 3), ((True,), True), ((0, None), None),
            (("0",), "0"), ((0, 1, 2, 3), 3), ((0, 2, 1), 1), ((0, 2.0), 2.0), ((0, (1,)), (1,)),
        ):
            self.due(BadPlace(wrong), Lie.straight(3).thinned, places)
            self.due(BadPlace(wrong), Lie.straight(3).thinned, list(places))
        self.due(BadPlace(0), Lie.straight(0).thinned, (0,))

    def test_twists(self):
        for cords, row in random_rows(22, 60):
            lie = Lie.of(cords, row)
            met, tops = strands(cords, row)
            self.assertEqual(lie.tops, tops)
            for one, two in itertools.permutations(range(cords), 2):
                twist = sum((1 if way == "before" else -1)
                            for pair, (_, way) in zip(met, row) if sorted(pair) == sorted((one, two)))
                self.assertEqual(lie.twist(one, two), twist)
        self.assertEqual(Lie.rounded(3, 1).twist(1, 2), 2)
        self.assertEqual(Lie.rounded(3, 1).twist(2, 1), 2)
        self.assertEqual(Lie.rounded(3, 1).twist(0, 1), 0)

    def test_twist_errors(self):
        lie = Lie.straight(3)
        for thing in (-1, 3, True, False, None, "0", 1.0, (1,)):
            self.due_as_passed(BadPlace, "place", thing, lie.twist, thing, "x")
            self.due_as_passed(BadPlace, "place", thing, lie.twist, 2, thing)
        self.due(BadPlace(1), lie.twist, 1, 1)
        self.due(BadPlace(5), lie.twist, 5, 6)

    def test_nothing_of_a_lie_changes(self):
        lie = Lie.of(3, ((0, "before"), (1, "behind")))
        words = lie.words
        lie.below(0, "before"), lie.above(1, "behind"), lie.passed(0, "before", "behind"), lie.back(), -lie
        lie * lie, lie + lie, lie.thinned((0, 2)), lie.twist(0, 1)
        self.assertIs(lie.words, words)
        for call in (lambda: lie.below(5, "before"), lambda: lie * Lie.straight(2), lambda: lie + Lie.straight(4)):
            with self.assertRaises(ValueError):
                call()
        self.assertIs(lie.words, words)


if __name__ == "__main__":
    unittest.main()
