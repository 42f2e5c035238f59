"""Points 33 and 34: which positions are lost, their ranks, and the two tables."""

from freestrung.arena import positions
from freestrung.called import Called
from freestrung.crews import Crew
from freestrung.errors import BadRow, NotThere, Spoilt, TooMany
from freestrung.judges import judge_caller, judge_crew
from freestrung.known import Known
from freestrung.standings import is_free_standing, standing_of
from tests.helpers import ALONE, KQF, NO_ROWS, STRONG, Case, fork_play, listed, only_tuples, play_of, winding_play
from tests.models import answers_model, begun, crew_table_model, ranks_model
from tests.samples import sound_plays

KING = (("king",), (0,))
LEFT = (("turn", "king", "left"),)
RIGHT = (("turn", "king", "right"),)
HOLD = (("king",),)
TURNS = (("repeat", 3, tuple(("turn", name, "any") for name in KQF[0])),)


def king(face=0, wind=0, hold=HOLD):
    return (("king",), (face,), (wind,), ((1,),), hold)


def held_in(row):
    return [name for group in row[1][4] for name in group]


def small_games(seed, many, most=100):
    """Plays and crews with what is found of them, if there are not too many positions."""
    for rng, play, crew in sound_plays(seed, many):
        try:
            found = positions(play, crew)
        except TooMany:
            continue
        if len(found) <= most:
            yield rng, play, crew, Called(play, crew)


TURNED = {"l": LEFT, "r": RIGHT, "e": ()}


class CalledTest(Case):
    def test_one_that_can_be_played(self):
        play = play_of(TURNED, ["a l b", "b r a"], opening=KING)
        called = Called(play, Crew(1))
        along = [((HOLD, "along", way),) for way in ("left", "right")]
        table = (("a", king(hold=()), (along[0],)), ("b", king(1), (along[1],)), ("a", king(), (along[0],)))
        self.assertEqual((bool(called), called.table, called.caller), (True, table, None))
        self.assertEqual((len(called), tuple(called)), (3, table))
        self.assertTrue(only_tuples(called.found))
        self.assertEqual(called.found, positions(play, Crew(1)))

    def test_one_that_cannot_be_played(self):
        play = play_of(TURNED, ["a e b", "b l c", "b e b"], ends=("c",), opening=KING)
        called = Called(play, Crew(1, beats=0))
        begun_here = standing_of(KING)
        self.assertEqual((bool(called), called.table), (False, None))
        self.assertEqual(called.caller, (("a", begun_here, 0, 2), ("b", begun_here, 1, 1)))
        self.assertEqual((len(called), tuple(called)), (2, called.caller))
        self.assertEqual(called.rank(("a", begun_here)), 2)

    def test_the_first_call_whose_answers_rank_below(self):
        play = play_of(TURNED, ["a e b", "a e c", "a l c", "b l c", "c r c"], ends=("c",), opening=KING)
        called = Called(play, Crew(1, beats=0))
        begun_here = standing_of(KING)
        self.assertEqual(called.caller, (
            ("a", begun_here, 2, 1), ("b", begun_here, 3, 1), ("c", begun_here, 4, 1)))

    def test_what_is_lost_only_called(self):
        """Known ahead, the crew takes the bars that it will need; called, it cannot tell which."""
        play, crew = fork_play(), Crew(**ALONE)
        called = Called(play, crew)
        self.assertTrue(Known(play, crew))
        self.assertFalse(called)
        self.assertEqual(called.caller[0][2:], (0, 2))
        for row in called.caller[1:]:
            self.assertEqual(row[2:], (2 if {"king", "queen"} & set(held_in(row)) else 1, 1))
        self.assertTrue(Called(play, Crew(**{**ALONE, "beats": 2})))

    def test_against_the_definition(self):
        told, ranks_seen = [0, 0], set()
        for _, play, crew, called in small_games(90, 250):
            ranks = ranks_model(play, crew, called.found)
            self.assertEqual(called.found, positions(play, crew))
            for position in called.found:
                self.assertEqual(called.rank(position), ranks.get(position, -1))
                self.assertIs(position in called, position not in ranks)
            self.assertIs(bool(called), begun(play) not in ranks)
            told[bool(called)] += 1
            ranks_seen |= set(ranks.values())
            if called:
                self.assertIsNone(called.caller)
                self.assertEqual(called.table, crew_table_model(play, crew, ranks))
                self.assertEqual(tuple(called), called.table)
            else:
                self.assertIsNone(called.table)
                self.assertEqual(called.caller, self.caller_model(play, crew, called.found, ranks))
                self.assertEqual(tuple(called), called.caller)
            self.assertEqual(len(called), len(tuple(called)))
            self.assertTrue(only_tuples(tuple(called)))
        self.assertGreater(min(told), 20)
        self.assertLessEqual({0, 1, 2}, ranks_seen)

    def caller_model(self, play, crew, found, ranks):
        rows = []
        for position in found:
            if position not in ranks:
                continue
            rank, call = ranks[position], -1
            for number in play.plan.calls_at(position[0]) if rank else ():
                behind = [(play.plan[number][2], after) for after, _ in answers_model(play, crew, position, number)]
                if call == -1 and all(ranks.get(after, rank) < rank for after in behind):
                    call = number
            self.assertEqual(call == -1, rank == 0)
            rows.append(position + (call, rank))
        return tuple(rows)

    def test_exactly_one_can_be_told(self):
        for _, play, crew, called in small_games(91, 100, 300):
            if called:
                self.assertIsNone(judge_crew(play, crew, called.table))
                self.assertIsNone(judge_crew(play, crew, listed(called.table)))
            else:
                self.assertIsNone(judge_caller(play, crew, called.caller))
                self.assertIsNone(judge_caller(play, crew, listed(called.caller)))

    def test_no_calls(self):
        called = Called(play_of({"e": ()}, []), Crew(1))
        self.assertEqual(called.table, (("a", standing_of(((), ())), ()),))

    def test_six_hundred_positions(self):
        called = Called(winding_play(12, 7), Crew(**STRONG))
        self.assertEqual(len(called.found), 600)
        self.assertEqual(len(called), 19)
        self.assertTrue(all(is_free_standing(standing) for _, standing, _ in called))
        self.due(TooMany("position"), Called, winding_play(13, 7), Crew(**STRONG))

    def test_all_is_found_ahead_of_what_is_lost(self):
        play = play_of({"t": TURNS, "l": LEFT}, ["a l a", "a t a"], opening=KQF)
        self.due(TooMany("standing"), Called, play, Crew(3, beats=3, winds=3))
        self.assertEqual(Called(play, Crew(3, beats=0)).caller, (("a", standing_of(KQF), 0, 1),))

    def test_errors_ahead(self):
        self.due(Spoilt((0,)), Called, play_of({"bad": LEFT}, ["a bad a"]), Crew(1))


class LookTest(Case):
    def called(self):
        return Called(play_of(TURNED, ["a l b", "b r a"], opening=KING), Crew(1))

    def lost(self):
        return Called(play_of(TURNED, ["a e a", "a l a"], opening=KING), Crew(1, beats=0))

    def test_rows(self):
        for called in (self.called(), self.lost()):
            for number, row in enumerate(called):
                self.assertEqual(called[number], row)
            for thing in (-1, len(called), None, True, False, "0", (0,), 10 ** 30, slice(0, 1)):
                self.due_as_passed(BadRow, "number", thing, lambda at: called[at], thing)

    def test_in(self):
        called = self.called()
        found = [position for position in called.found if position in called]
        self.assertIn(("a", king()), found)
        self.assertIn(("b", king(1, 1)), called)
        self.assertNotIn(("a", king(0, 1)), called)
        self.assertNotIn(("a", king(0, 0, ())), self.lost())
        for position in found:
            self.assertIn(listed(position), called)
        for thing in NO_ROWS + (("a",), ("a", king(), ()), ("c", king()), (["a"], king()), ("a", None), ("b", king(0)),
                                ("a", king()[:4]), (True, king()), ("a", king(True)), ("a", king(0, 3))):
            self.assertNotIn(thing, called)
            self.due_as_passed(NotThere, "position", thing, called.rank, thing)

    def test_rank(self):
        called = self.called()
        self.assertEqual(called.rank(("a", king())), -1)
        self.assertEqual(called.rank(["a", listed(king())]), -1)
        self.assertEqual(called.rank(("a", king(0, 1))), 0)
        self.assertEqual(self.lost().rank(("a", king(0, 0, ()))), 1)
        self.due(NotThere(("a", king(1))), called.rank, ("a", king(1)))
        self.due(NotThere(listed(("a", king(1)))), called.rank, listed(("a", king(1))))
