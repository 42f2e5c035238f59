"""Point 41: players who fall ill."""

from freestrung.called import Called
from freestrung.crews import Crew
from freestrung.errors import BadMost, Spoilt, TooMany
from freestrung.falls import Falls, fallen, judge_falls, most_falls
from freestrung.judges import judge_crew
from freestrung.sound import Sound
from freestrung.standings import is_free_standing, picture_of, standing_of
from tests.helpers import NO_ROWS, STRONG, Case, fork_play, listed, only_tuples, play_of, winding_play
from tests.models import answers_model, behind_call, begun, is_bound, is_in_place, is_whole, judged, leads_to, tupled
from tests.samples import sound_plays
from tests.test_called import HOLD, KING, LEFT, TURNED, TURNS, king
from tests.test_judges import random_spoilt

TWO = (("king", "queen"), (0, 0))
# Both bars must be in hands, one of them alone.
PASSES = {"p": (("pass", "king", "right", "before"),), "q": (("pass", "king", "left", "before"),)}


def left_of(crew, away):
    return crew.changed(players=crew.players - away)


def falls_of(crew, position):
    """All positions behind a fall, from the document alone."""
    node, (row, faces, winds, words, hold), away = position
    players = crew.players - away
    if players == 1:
        return []
    holds = [tuple(group for group in hold if group != gone) for gone in hold]
    if players > len(hold):
        holds.append(hold)
    return [(node, (row, faces, winds, words, other), away + 1) for other in holds]


def links_at(play, crew, most, position):
    """For each call, and for each fall, the positions behind it."""
    node, standing, away = position
    calls = [[after + (away,) for after in behind_call(play, left_of(crew, away), (node, standing), call)]
             for call in play.plan.calls_at(node)]
    return calls + ([[after] for after in falls_of(crew, position)] if away < most else [])


def found_model(play, crew, most):
    found = [begun(play) + (0,)]
    for position in found:
        for behind in links_at(play, crew, most, position):
            found += [after for after in behind if after not in found]
    return found


def lost_model(play, crew, most, found):
    links = {position: links_at(play, crew, most, position) for position in found}
    lost = {position for position in found if is_bound(play, position[:2])}
    while True:
        more = {position for position in found if position not in lost
                and any(lost.issuperset(behind) for behind in links[position])}
        if not more:
            return lost
        lost |= more


def table_model(play, crew, most, lost):
    todo, rows = [begun(play) + (0,)], []
    for position in todo:
        node, standing, away = position
        playings = []
        for call in play.plan.calls_at(node):
            good = [((play.plan[call][2], after, away), playing)
                    for after, playing in answers_model(play, left_of(crew, away), (node, standing), call)]
            after, playing = next(answer for answer in good if answer[0] not in lost)
            playings.append(playing)
            todo += [after] if after not in todo else []
        todo += [after for after in falls_of(crew, position) if away < most and after not in todo]
        rows.append(position + (tuple(playings),))
    return tuple(rows)


def judge_model(play, crew, most, table):
    def formed(row):
        if not isinstance(row, (list, tuple)) or len(row) != 4 or not is_whole(row[2]) or not 0 <= row[2] <= most:
            return None
        if not is_in_place(play, left_of(crew, row[2]), *row[:2]) or not isinstance(row[3], (list, tuple)):
            return None
        if len(row[3]) != len(play.plan.calls_at(row[0])):
            return None
        node, standing, away, playings = tupled(row)
        return ((node, standing), away) + (playings,)

    def right(row, rows):
        (node, standing), away, playings = row
        if is_bound(play, (node, standing)) or (node, picture_of(standing)) not in Sound(play):
            return False
        here = [other[0] + (other[1],) for other in rows]
        calls = [(play.plan[call][2], leads_to(play, left_of(crew, away), standing, call, playing), away)
                 for call, playing in zip(play.plan.calls_at(node), playings)]
        return set(calls + (falls_of(crew, (node, standing, away)) if away < most else [])) <= set(here)

    return judged(table, formed, right, (begun(play), 0))


def small_falls(seed, many, size=110):
    for rng, play, crew in sound_plays(seed, many):
        crew = left_of(crew, -1) if crew.players < 4 else crew
        most = rng.randint(0, min(2, crew.players - 1))
        try:
            falls = Falls(play, crew, most)
        except TooMany:
            continue
        if falls.found <= size:
            yield rng, play, crew, most, falls


class FallenTest(Case):
    def test_in_order(self):
        hold = (("king",), ("queen",))
        here = TWO + ((0, 0), ((1,), (2,)), hold)
        other = [TWO + ((0, 0), ((1,), (2,)), held) for held in ((("queen",),), (("king",),), hold)]
        self.assertEqual(fallen(Crew(2), ("a", here, 0)), (("a", other[0], 1), ("a", other[1], 1)))
        self.assertEqual(fallen(Crew(3), ("a", here, 0)), tuple(("a", standing, 1) for standing in other))
        self.assertEqual(fallen(Crew(4), ("a", here, 2)), (("a", other[0], 3), ("a", other[1], 3)))
        self.assertTrue(only_tuples(fallen(Crew(4), listed(("a", here, 1)))))
        self.assertEqual(fallen(Crew(4), listed(("a", here, 1))), tuple(("a", standing, 2) for standing in other))

    def test_a_group_of_two(self):
        here = TWO + ((0, 0), ((1,), (2,)), (("king", "queen"),))
        self.assertEqual(fallen(Crew(2), ("a", here, 0)), (("a", here[:4] + ((),), 1), ("a", here, 1)))

    def test_the_last_player(self):
        here = TWO + ((0, 0), ((1,), (2,)), (("king", "queen"),))
        for players, away in ((1, 0), (2, 1), (3, 2), (4, 3)):
            for standing in (here, standing_of(TWO)):
                self.assertEqual(fallen(Crew(players), ("a", standing, away)), ())

    def test_no_bar_in_hands(self):
        self.assertEqual(fallen(Crew(2), ("a", standing_of(TWO), 0)), (("a", standing_of(TWO), 1),))

    def test_against_the_definition(self):
        for _, play, crew, most, falls in small_falls(110, 30):
            for position in found_model(play, crew, most):
                self.assertEqual(list(fallen(crew, position)), falls_of(crew, position))


class FallsTest(Case):
    def test_against_the_definition(self):
        told = {}
        for _, play, crew, most, falls in small_falls(111, 200):
            found = found_model(play, crew, most)
            lost = lost_model(play, crew, most, found)
            self.assertEqual(falls.found, len(found))
            self.assertIs(bool(falls), found[0] not in lost)
            self.assertEqual(falls.table, table_model(play, crew, most, lost) if falls else None)
            self.assertEqual(tuple(falls), falls.table or ())
            self.assertEqual(len(falls), len(falls.table or ()))
            self.assertTrue(only_tuples(tuple(falls)))
            told[most, bool(falls)] = told.get((most, bool(falls)), 0) + 1
        self.assertEqual(len(told), 6)
        self.assertGreater(min(told.values()), 2)

    def test_without_falls(self):
        """With no falls the evening is the one that is called."""
        for _, play, crew, most, falls in small_falls(112, 60):
            called = Called(play, crew)
            none = Falls(play, crew, 0)
            self.assertEqual((bool(none), none.found), (bool(called), len(called.found)))
            if called:
                self.assertEqual(none.table, tuple(row[:2] + (0,) + row[2:] for row in called.table))
            if falls:
                self.assertTrue(Falls(play, crew, most - 1) if most else none)
                if crew.players - most >= 1:
                    self.assertTrue(Called(play, left_of(crew, most)))

    def test_falls_that_are_too_many(self):
        play = play_of(PASSES, ["a p b", "b q a"], ends=("a", "b"), opening=TWO)
        crew = Crew(3, reach=0, beats=2, bears=0)
        self.assertEqual([bool(Falls(play, crew, most)) for most in (0, 1, 2)], [True, True, False])
        self.assertEqual(most_falls(play, crew), 1)
        self.assertEqual(most_falls(play, crew.changed(reach=1)), 2)
        self.assertEqual(most_falls(play, crew.changed(players=2)), 0)
        self.assertEqual(most_falls(play, crew.changed(players=1)), -1)
        self.assertEqual(most_falls(play, crew.changed(players=4)), 2)

    def test_six_hundred_positions(self):
        crew = Crew(**STRONG)
        self.assertEqual(Falls(winding_play(12, 7), crew, 0).found, 600)
        self.due(TooMany("position"), Falls, winding_play(13, 7), crew, 0)
        self.due(TooMany("position"), Falls, winding_play(12, 7), crew, 1)
        # A row of nodes, at each of which the crew is as it was at the beginning, with 0, 1 or 2 falls.
        names = [f"{one}{other}" for one in "uv" for other in "abcdefghijklmnopqrst"]
        still = play_of({"e": ()}, [f"{one} e {other}" for one, other in zip(names, names[1:])], first="ua", ends=names[-1:])
        self.assertEqual([Falls(still, crew, most).found for most in (0, 1, 2)], [40, 80, 120])

    def test_most(self):
        play = play_of({"e": ()}, ["a e a"])
        for players in range(1, 5):
            for thing in (None, True, False, "0", -1, 3, 10 ** 30, (0,)) + tuple(range(players, 4)):
                self.due_as_passed(BadMost, "most", thing, Falls, play, Crew(players), thing)
                self.due_as_passed(BadMost, "most", thing, judge_falls, play, Crew(players), thing, None)
            for most in range(min(3, players)):
                self.assertTrue(Falls(play, Crew(players), most))

    def test_errors_ahead(self):
        play = play_of({"bad": LEFT}, ["a bad a"])
        self.due(Spoilt((0,)), Falls, play, Crew(1), None)
        self.due(Spoilt((0,)), judge_falls, play, Crew(1), None, None)
        self.due(Spoilt((0,)), most_falls, play, Crew(1))


class MostFallsTest(Case):
    def test_against_falls(self):
        seen = set()
        for _, play, crew in sound_plays(113, 120):
            told = -1
            try:
                for most in range(min(2, crew.players - 1) + 1):
                    if not Falls(play, crew, most):
                        break
                    told = most
            except TooMany as why:
                self.due(why, most_falls, play, crew)
                continue
            self.assertEqual(most_falls(play, crew), told)
            seen.add((crew.players, told))
        self.assertLessEqual({(1, -1), (1, 0), (2, -1), (2, 1), (3, 2), (3, -1)}, seen)

    def test_errors_as_far_as_it_is_asked(self):
        play = play_of({"t": TURNS, "l": LEFT}, ["a t a"], opening=(("king", "queen", "fool"), (0, 0, 0)))
        self.due(TooMany("standing"), most_falls, play, Crew(3, beats=3, winds=3))
        self.assertEqual(most_falls(play, Crew(3, beats=0)), -1)
        self.due(TooMany("position"), most_falls, winding_play(12, 7), Crew(**STRONG))


class JudgeTest(Case):
    def check(self, play, crew, most, table):
        wanted = judge_model(play, crew, most, table)
        self.assertEqual(judge_falls(play, crew, most, table), wanted)
        self.assertEqual(judge_falls(play, crew, most, listed(table)), wanted)
        return wanted

    def test_tables_that_are_told(self):
        right = wrong = 0
        for rng, play, crew, most, falls in small_falls(114, 100, 60):
            table = falls.table
            if table is None or len(table) > 40:
                continue
            self.assertIsNone(self.check(play, crew, most, table))
            self.assertIsNone(self.check(play, crew, most, table[::-1] + table[:2]))
            right += most > 0
            for _ in range(3):
                number = rng.randrange(len(table))
                row = table[number]
                other = rng.choice((random_spoilt(rng, play, row, table), row[:2] + (row[2] + 1,) + row[3:],
                                    row[:2] + (None,) + row[3:], row[:3] + (row[3][1:],), row[:3] + (row[3] + (None,),),
                                    row[:3] + ((None,) * len(row[3]),)))
                for rows in (table[:number] + (other,) + table[number + 1:], table[:number] + table[number + 1:],
                             table + (other,)):
                    wrong += self.check(play, crew, most, rows) is not None
        self.assertGreater(right, 20)
        self.assertGreater(wrong, 100)

    def test_without_falls_it_is_a_crews_table(self):
        for _, play, crew, most, falls in small_falls(115, 40):
            table = Called(play, crew).table or ()
            rows = tuple(row[:2] + (0,) + row[2:] for row in table)
            self.assertEqual(judge_falls(play, crew, 0, rows), judge_crew(play, crew, table))
            if most and table:
                self.assertIsNotNone(judge_falls(play, crew, most, rows))

    def test_a_small_table(self):
        play = play_of(TURNED, ["a l a"], opening=KING)
        crew = Crew(2)
        along = (((HOLD, "along", "left"),),)
        free = [king(face, 0, hold) for face in (0, 1) for hold in ((), HOLD)]
        table = (("a", free[0], 0, along), ("a", free[3], 0, along), ("a", free[1], 0, along)) + tuple(
            ("a", standing, 1, along) for standing in free)
        self.assertIsNone(judge_falls(play, crew, 1, table))
        self.assertEqual(judge_falls(play, crew, 0, table), 3)
        self.assertEqual(judge_falls(play, crew, 1, table[1:]), -1)
        for number in range(1, len(table)):
            # Each row is needed by one ahead of it, or by one behind.
            rows = table[:number] + table[number + 1:]
            self.assertEqual(judge_falls(play, crew, 1, rows), judge_model(play, crew, 1, rows))
            self.assertIsNotNone(judge_falls(play, crew, 1, rows))
        for thing in NO_ROWS + (table[0][:3], table[0] + (0,), ("a", free[0], True, along), ("a", free[0], 2, along),
                                ("a", free[0], -1, along), ("a", free[0], 0, ()), ("a", free[0], "0", along)):
            self.assertEqual(judge_falls(play, crew, 1, table + (thing,)), len(table))

    def test_a_hold_of_more_players_than_are_left(self):
        play = play_of({"e": ()}, ["a e a"], opening=TWO)
        both = TWO + ((0, 0), ((1,), (2,)), (("king",), ("queen",)))
        begun_here = standing_of(TWO)
        table = (("a", begun_here, 0, ((),)), ("a", begun_here, 1, ((),)))
        self.assertIsNone(judge_falls(play, Crew(2), 1, table))
        self.assertEqual(judge_falls(play, Crew(2), 1, table + (("a", both, 1, ((),)),)), 2)
        self.assertEqual(judge_falls(play, Crew(2), 1, table + (("a", both, 0, ((),)),)), 2)

    def test_free_standings_at_the_ends(self):
        for _, play, crew, most, falls in small_falls(116, 40):
            for node, standing, away, _ in falls:
                self.assertTrue(is_free_standing(standing) or not play.plan.is_end(node))
                self.assertLessEqual(len(standing[4]), crew.players - away)

    def test_a_fall_at_a_bad_time(self):
        """Behind the rest the one player who holds the bars can fall ill."""
        crew = Crew(2, reach=1, beats=2, bears=0, winds=0)
        self.assertEqual(most_falls(fork_play(), crew), 1)
        slow = Crew(2, reach=1, beats=1, bears=0, winds=0)
        self.assertTrue(Called(fork_play(2), slow))
        self.assertEqual(most_falls(fork_play(2), slow), 0)
        self.assertFalse(Falls(fork_play(2), slow, 1))
