"""Point 27, its second paragraph: the outcomes of a row of deeds, and the lot behind some standings."""

import itertools

from freestrung.crews import Crew
from freestrung.errors import BadDeeds, BadStanding, TooMany
from freestrung.lies import Lie
from freestrung.outcomes import cheap_outcomes, lot_behind, outcomes
from freestrung.playings import moves_of, play_on
from freestrung.standings import standing_of
from tests.helpers import NO_ROWS, Case, listed, only_tuples
from tests.models import outcomes_model, ways_of
from tests.test_handlings import PASS, deeds_at, of_two, random_standings
from tests.test_playings import random_playing

REST = ("rest",)
TRIO = (("a", "b", "c"), (0, 0, 0))
QUARTET = (("a", "b", "c", "d"), (0, 0, 0, 0))
CALLS = (outcomes, cheap_outcomes)


def winding(name, times):
    return (("turn", name, "any"),) * times


def wound(many, hold=()):
    """So many different standings of one picture, for a crew with winds of 3."""
    winds = list(itertools.product(range(-3, 4), repeat=3))[:many]
    return tuple((TRIO[0], TRIO[1], told, Lie.straight(3).words, hold) for told in winds)


# 12 holds of three bars side by side, and winds of two of the puppets from -2 to 2: 12 * 25 standings.
JUST = (Crew(3, reach=1, beats=3, winds=2), standing_of(TRIO), winding("a", 2) + winding("b", 2) + (REST, REST))
# 43 holds of four bars, and winds of one of the puppets from -3 to 3: 43 * 7 standings.
OVER = (Crew(4, reach=3, beats=3, winds=3), standing_of(QUARTET), winding("a", 3) + (REST, REST))


def all_playings(crew, standing, deeds):
    """All playings of some deeds, with the standings behind them."""
    found = [(standing, ())]
    for deed in deeds:
        found = [(after, playing + (way,)) for here, playing in found
                 for way, after in ways_of(crew.numbers, here, deed)]
    return found


def random_rows(seed, many, most):
    """Crews and standings with rows of deeds, of which some are not those of a playing."""
    for rng, crew, standing in random_standings(seed, many):
        deeds, _, after, _ = random_playing(rng, crew, standing, most)
        if rng.random() < 0.4:
            deeds += (rng.choice(deeds_at(after[0])),)
        yield rng, crew, standing, deeds


class OutcomesTest(Case):
    def test_of_a_pass(self):
        crew = Crew(1, reach=1)
        here = of_two(hold=(("a", "b"),))
        told = outcomes(crew, here, (("pass", "a", "b", "right", "before"),))
        hold = (("a", "b"),)
        self.assertEqual([playing for _, playing in told], [
            ((hold, "before", "before"),), ((hold, "behind", "before"),), (((("a",),), "behind", "before"),)])
        self.assertEqual(told[0][0], (("b", "a"), (0, 0), (0, 0), ((1,), (2,)), hold))
        self.assertEqual(told[1][0][3], ((1, 2, 1, -2, -1), (1, 2, -1)))
        self.assertEqual(told[2][0], told[1][0][:4] + ((("a",),),))

    def test_against_the_definition(self):
        sizes = []
        for _, crew, standing, deeds in random_rows(61, 150, 4):
            try:
                wanted = outcomes_model(crew, (standing,), deeds)
            except TooMany as why:
                self.due(why, outcomes, crew, standing, deeds)
                continue
            told = self.same_with_lists(lambda *passed: outcomes(crew, *passed), standing, deeds)
            self.assertEqual(told, wanted)
            sizes.append(len(told))
            for after, playing in told:
                self.assertEqual(play_on(crew, standing, deeds, playing), after)
        self.assertGreater(max(sizes), 15)
        self.assertIn(0, sizes)

    def test_no_deeds(self):
        for here in (of_two(), standing_of(((), ())), of_two(hold=(("a",),))):
            self.assertEqual(outcomes(Crew(1), listed(here), []), ((here, ()),))
            self.assertEqual(cheap_outcomes(Crew(1), listed(here), ()), ((here, 0, ()),))
            self.assertEqual(lot_behind(Crew(1), [listed(here)], []), (here,))

    def test_a_deed_that_cannot_be_done(self):
        turn = (("turn", "a", "any"), REST)
        for call in CALLS:
            self.assertEqual(call(Crew(1, beats=0), of_two(), turn), ())
        self.assertEqual(lot_behind(Crew(1, beats=0), (of_two(),), turn), ())

    def test_so_many_deeds(self):
        crew = Crew(1, beats=0)
        for call in CALLS:
            self.assertEqual([told[-1] for told in call(crew, of_two(), (REST,) * 60)], [(((), None, None),) * 60])
            self.due(BadDeeds(-1), call, crew, of_two(), (REST,) * 61)
        self.assertEqual(lot_behind(crew, (of_two(),), (REST,) * 60), (of_two(),))
        self.due(BadDeeds(-1), lot_behind, crew, (of_two(),), (REST,) * 61)

    def test_three_hundred_standings(self):
        crew, here, deeds = JUST
        self.assertEqual(len(outcomes(crew, here, deeds)), 300)
        self.assertEqual(len(cheap_outcomes(crew, here, deeds)), 300)
        self.assertEqual(len(lot_behind(crew, (here,), deeds)), 300)
        crew, here, deeds = OVER
        self.assertLess(len(outcomes(crew, here, deeds[:-2])), 301)
        for call in CALLS:
            self.due(TooMany("standing"), call, crew, here, deeds)
            # What is fewer again behind more deeds is too many all the same.
            self.due(TooMany("standing"), call, crew, here, deeds + (("exit", "a", "any"),))
        self.due(TooMany("standing"), lot_behind, crew, (here,), deeds)

    def test_three_hundred_standings_of_a_lot(self):
        crew = Crew(1, beats=0, winds=3)
        for deeds in ((), (REST,)):
            self.assertEqual(lot_behind(crew, wound(300)[::-1], deeds), wound(300))
            self.due(TooMany("standing"), lot_behind, crew, wound(301), deeds)
            self.assertEqual(lot_behind(crew, wound(300) + wound(300), deeds), wound(300))
        # Behind the deed fewer are left.
        self.due(TooMany("standing"), lot_behind, crew, wound(301), (("move", "a", "j"),))


class CheapTest(Case):
    def test_against_all_playings(self):
        moved = 0
        for _, crew, standing, deeds in random_rows(62, 100, 3):
            if len(deeds) > 3:
                continue
            least = {}
            for after, playing in all_playings(crew, standing, deeds):
                moves = moves_of(crew, standing, deeds, playing)
                least[after] = min(moves, least.get(after, moves))
            told = self.same_with_lists(lambda *passed: cheap_outcomes(crew, *passed), standing, deeds)
            self.assertEqual([after for after, _, _ in told], [after for after, _ in outcomes(crew, standing, deeds)])
            self.assertEqual({after: moves for after, moves, _ in told}, least)
            for after, moves, playing in told:
                self.assertEqual(play_on(crew, standing, deeds, playing), after)
                self.assertEqual(moves_of(crew, standing, deeds, playing), moves)
                moved += moves
        self.assertGreater(moved, 200)

    def test_the_first_playing_need_not_be_the_cheapest(self):
        crew = Crew(3, reach=1, beats=1, bears=0, winds=0)
        here = of_two(hold=(("a",),))
        deeds = (("pass", "b", "a", "left", "any"), ("enter", "c", "left"))
        hold = (("a", "b"),)
        after = (("c", "b", "a"), (0, 0, 0), (0, 0, 0), Lie.straight(3).words, hold)
        first = (((("a",), ("b",)), "before", "before"), (hold, None, None))
        cheap = ((hold, "before", "before"), (hold, None, None))
        self.assertIn((after, first), outcomes(crew, here, deeds))
        self.assertEqual([moves_of(crew, here, deeds, playing) for playing in (first, cheap)], [2, 1])
        self.assertIn((after, 1, cheap), cheap_outcomes(crew, here, deeds))


class LotTest(Case):
    def test_against_the_outcomes_of_all(self):
        several = 0
        for rng, crew, standing, deeds in random_rows(63, 120, 3):
            try:
                lot = tuple(after for after, _ in outcomes_model(crew, (standing,), (REST, REST)))
                lot = tuple(rng.sample(lot, min(len(lot), 4))) + (standing,)
                wanted = outcomes_model(crew, lot, deeds)
            except TooMany as why:
                self.due(why, lot_behind, crew, lot, deeds)
                continue
            told = self.same_with_lists(lambda *passed: lot_behind(crew, *passed), lot, deeds)
            self.assertEqual(told, tuple(sorted(after for after, _ in wanted)))
            several += len(told) > len(outcomes(crew, standing, deeds))
        self.assertGreater(several, 10)

    def test_an_empty_lot(self):
        for deeds in ((), (PASS,), (REST,) * 61, None, 7):
            self.assertEqual(lot_behind(Crew(1), (), deeds), ())
            self.assertEqual(lot_behind(Crew(1), [], deeds), ())

    def test_together_they_can_be_too_many(self):
        crew, here, deeds = JUST
        others = [here[:2] + ((0, 0, wind),) + here[3:] for wind in (0, 1)]
        self.assertEqual(len(lot_behind(crew, others[:1], deeds)), 300)
        self.due(TooMany("standing"), lot_behind, crew, others, deeds)


class OutcomeErrorsTest(Case):
    def test_errors_in_order(self):
        heavy = of_two(Lie.rounded(2, 0).words)
        for call in CALLS + (lambda crew, here, deeds: lot_behind(crew, (of_two(), here), deeds),):
            for thing in NO_ROWS:
                self.due(BadStanding("row"), call, Crew(1), thing, None)
                self.due(BadDeeds(-1), call, Crew(1), of_two(), thing)
            self.due(BadStanding("lie"), call, Crew(1, bears=1), heavy, None)
            self.due(BadStanding("winds"), call, Crew(1), of_two(winds=(0, 2), hold=(("b",), ("a",))), None)
            self.due(BadDeeds(1), call, Crew(1), of_two(), (PASS, PASS))
            self.due(BadDeeds(0), call, Crew(4, reach=3, beats=3, winds=3), of_two(), (None,) + OVER[2])

    def test_only_tuples(self):
        for call in CALLS:
            told = call(Crew(1), listed(of_two()), [list(PASS), ["rest"]])
            self.assertTrue(told and only_tuples(told))
