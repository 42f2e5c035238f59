"""Points 27 and 28 (their beginnings): playings, their moves, and their rows of passings."""

from freestrung.crews import Crew
from freestrung.errors import BadCords, BadDeeds, BadPassing, BadStanding, Unplayable
from freestrung.everylie import EveryLie, Passings
from freestrung.handlings import handlings, played, why_not
from freestrung.holds import far
from freestrung.lies import Lie
from freestrung.playings import judge_playing, moves_of, passings_of, play_on
from freestrung.standings import lie_of, standing_of
from tests.helpers import NO_ROWS, Case, listed, only_tuples
from tests.test_handlings import PASS, deeds_at, of_two, random_standings

CALLS = (judge_playing, play_on, moves_of, passings_of)
REST = ("rest",)
STILL = ((), None, None)


def random_playing(rng, crew, standing, most, kinds=None):
    """Some deeds, and a playing of them that can be played; the standing behind it, and its moves."""
    deeds, playing, moves = [], [], 0
    for _ in range(rng.randint(0, most)):
        deed = rng.choice([deed for deed in deeds_at(standing[0]) if kinds is None or deed[0] in kinds])
        ways = list(handlings(crew, standing, deed))
        if not ways:
            continue
        deeds.append(deed)
        playing.append(rng.choice(ways))
        moves += far(crew, standing[0], standing[4], playing[-1][0])
        standing = played(crew, standing, deed, playing[-1])
    return tuple(deeds), tuple(playing), standing, moves


class PlayingTest(Case):
    def test_playings_that_can_be_played(self):
        many = 0
        for rng, crew, standing in random_standings(11, 60):
            deeds, playing, after, moves = random_playing(rng, crew, standing, 6)
            many += moves
            self.assertIsNone(self.same_with_lists(lambda *told: judge_playing(crew, *told), standing, deeds, playing))
            self.assertEqual(self.same_with_lists(lambda *told: play_on(crew, *told), standing, deeds, playing), after)
            self.assertEqual(self.same_with_lists(lambda *told: moves_of(crew, *told), standing, deeds, playing), moves)
        self.assertGreater(many, 50)

    def test_the_first_deed_that_cannot_be_done(self):
        seen = set()
        for rng, crew, standing in random_standings(12, 80):
            deeds, playing, after, _ = random_playing(rng, crew, standing, 4)
            deed = rng.choice(deeds_at(after[0]))
            bad = (after[4], *rng.choice(((None, None), (None, "before"), ("along", "left"), ("before", "behind"))))
            word = why_not(crew, after, deed, bad)
            if word is None:
                continue
            seen.add(word)
            deeds, playing = deeds + (deed, REST), playing + (bad, None)
            told = (len(deeds) - 2, word)
            self.assertEqual(judge_playing(crew, standing, deeds, playing), told)
            for call in (play_on, moves_of):
                self.due(Unplayable(*told), call, crew, standing, deeds, playing)
        self.assertLessEqual({"form", "bar"}, seen)

    def test_no_tuple_with_as_many_things(self):
        crew, standing = Crew(1), of_two()
        for deeds in ((), (REST,), (REST, REST)):
            for thing in NO_ROWS + tuple((STILL,) * many for many in range(4) if many != len(deeds)):
                self.assertEqual(judge_playing(crew, standing, deeds, thing), (-1, "form"))
                for call in CALLS[1:]:
                    self.due(Unplayable(-1, "form"), call, crew, standing, deeds, thing)
        for thing in NO_ROWS + (STILL[:2], (None,) * 3):
            self.assertEqual(judge_playing(crew, standing, (REST, REST), (STILL, thing)), (1, "form"))

    def test_no_deeds(self):
        for standing in (of_two(), of_two(Lie.rounded(2, 0).words, (1, 1), (("a",),)), ((),) * 5):
            self.assertIsNone(judge_playing(Crew(1), standing, (), ()))
            self.assertEqual(play_on(Crew(1), listed(standing), [], []), standing)
            self.assertTrue(only_tuples(play_on(Crew(1), listed(standing), [], [])))
            self.assertEqual(moves_of(Crew(1), standing, (), ()), 0)

    def test_so_many_deeds(self):
        self.assertIsNone(judge_playing(Crew(1), of_two(), (REST,) * 60, (STILL,) * 60))
        for call in CALLS:
            self.due(BadDeeds(-1), call, Crew(1), of_two(), (REST,) * 61, (STILL,) * 61)

    def test_moves_count_from_the_hold_behind(self):
        crew = Crew(2, beats=2)
        standing = of_two(hold=(("a",), ("b",)))
        deeds = (("exit", "a", "any"), REST, REST)
        playing = (((("a",), ("b",)), None, "before"), ((("b",),), None, None), ((), None, None))
        self.assertEqual(moves_of(crew, standing, deeds, playing), 1)
        self.assertEqual(moves_of(crew, of_two(), deeds, playing), 3)

    def test_errors_in_order(self):
        for call in CALLS:
            self.due(BadStanding("row"), call, Crew(1), None, None, None)
            self.due(BadStanding("hold"), call, Crew(1), of_two(hold=(("a",), ("b",))), None, None)
            for thing in NO_ROWS:
                self.due(BadDeeds(-1), call, Crew(1), of_two(), thing, None)
            for deeds, number in (((None,), 0), ((PASS, PASS), 1), ((REST, ("exit", "a", "any"), ("turn", "a", "any")), 2),
                                  ((("turn", "c", "left"),), 0), ((REST, ("rest", 1)), 1)):
                self.due(BadDeeds(number), call, Crew(1), of_two(), deeds, None)
                self.due(BadDeeds(number), call, Crew(1), listed(of_two()), listed(deeds), None)


class PassingsOfTest(Case):
    def test_they_make_the_lie(self):
        many = 0
        for rng, crew, standing in random_standings(13, 150):
            if len(standing[0]) < 2:
                continue
            kinds = ("pass", "turn", "move", "rest") if rng.random() < 0.3 else ("pass",)
            deeds, playing, after, _ = random_playing(rng, crew, standing, 8, kinds)
            passings = passings_of(crew, standing, deeds, playing)
            self.assertIsInstance(passings, Passings)
            self.assertEqual(passings, passings_of(crew, listed(standing), listed(deeds), listed(playing)))
            self.assertEqual(passings.cords, len(standing[0]))
            self.assertEqual(len(passings), len([deed for deed in deeds if deed[0] == "pass"]))
            self.assertEqual(passings(lie_of(standing)), lie_of(after))
            many += len(passings)
        self.assertGreater(many, 40)

    def test_the_ways_of_the_left_one(self):
        row = ("a", "b", "c")
        standing = (row, (0,) * 3, (0,) * 3, Lie.straight(3).words, ())
        deeds = (("pass", "b", "c", "right", "any"), ("pass", "b", "c", "left", "any"), ("pass", "b", "a", "left", "any"))
        hold = (("b",),)
        playing = ((hold, "behind", "before"), (hold, "behind", "before"), (hold, "behind", "behind"))
        self.assertEqual(passings_of(Crew(1), standing, deeds, playing).row, (
            (1, "behind", "before"), (1, "before", "behind"), (0, "before", "before")))

    def test_alike_playings(self):
        standing = of_two(hold=(("a",), ("b",)))
        crew, both = Crew(2), (("a",), ("b",))
        back = ("pass", "a", "b", "left", "any")
        one = passings_of(crew, standing, (PASS, back), ((both, "before", "before"), (both, "behind", "behind")))
        self.assertIs(bool(EveryLie(one, Passings(2, ((0, "before", "before"),) * 2))), True)

    def test_no_exits_and_enters(self):
        crew, standing = Crew(1), of_two()
        for deed in (("exit", "a", "any"), ("enter", "c", "left")):
            self.due(BadDeeds(1), passings_of, crew, standing, (PASS, deed), None)
            self.due(BadDeeds(0), passings_of, crew, standing, (deed, REST), None)
        # What is no deed, or does not fit, goes ahead.
        self.due(BadDeeds(2), passings_of, crew, standing, (("exit", "a", "any"), REST, PASS), None)
        self.due(BadDeeds(0), passings_of, crew, ((),) * 5, (("enter", "a", "left"),), None)

    def test_an_empty_row(self):
        self.due(BadCords(0), passings_of, Crew(1), ((),) * 5, (), ())
        self.due(BadCords(0), passings_of, Crew(1), ((),) * 5, (REST,), (STILL,))
        self.due(Unplayable(0, "form"), passings_of, Crew(1), ((),) * 5, (REST,), (None,))

    def test_so_many_passes(self):
        both = (("a",), ("b",))
        standing, crew = of_two(hold=both), Crew(2)
        deeds = (PASS, ("pass", "a", "b", "left", "any")) * 30
        playing = ((both, "before", "before"), (both, "behind", "behind")) * 30
        self.assertEqual(len(passings_of(crew, standing, deeds[:40], playing[:40])), 40)
        self.assertEqual(len(passings_of(crew, standing, deeds[:40] + (REST,) * 20,
                                         playing[:40] + ((both, None, None),) * 20)), 40)
        self.due(BadPassing(-1), passings_of, crew, standing, deeds[:41], playing[:41])
        self.due(Unplayable(40, "form"), passings_of, crew, standing, deeds[:41], playing[:40] + (None,))

    def test_whoever_faces_whom(self):
        standing = standing_of((("a",), (1,)))
        passings = passings_of(Crew(1), standing, (("turn", "a", "any"),), (((("a",),), "along", "left"),))
        self.assertEqual((passings.cords, passings.row), (1, ()))
