"""Point 39: nights, what they tell, what they refuse, and how they are played by a prompter."""

import random

from freestrung.arena import may_end
from freestrung.called import Called
from freestrung.crews import Crew
from freestrung.errors import BadCall, NotDue, NotThere, Spoilt, TooMany, Unplayable
from freestrung.handlings import handlings, played, why_not
from freestrung.nights import Night, prompted
from freestrung.playings import judge_playing, play_on
from freestrung.prompts import Prompter
from freestrung.seen import events, shows_of
from freestrung.showalike import has_show
from freestrung.standings import is_free_standing, picture_of, standing_of
from tests.helpers import NO_ROWS, Case, listed, only_tuples, play_of
from tests.models import deeds_of
from tests.samples import sound_plays
from tests.test_called import HOLD, KING, LEFT, king, small_games

TWO = (("king", "queen"), (0, 0))
SCENES = {
    "p": (("pass", "king", "right", "any"), ("turn", "king", "any"), ("move", "queen", "fan")),
    "q": (("pass", "king", "left", "before"), ("turn", "king", "right"), ("rest",)), "e": (), "t": LEFT,
}
BOTH = (("king",), ("queen",))
PLAY = ((BOTH, "behind", "behind"), (BOTH, "along", "left"), (BOTH, None, None))
BACK = ((BOTH, "before", "before"), (BOTH, "along", "right"), ((), None, None))


def duel():
    return play_of(SCENES, ["a p b", "b q a", "a e a", "b e c"], ends=("a", "c"), opening=TWO)


def told(night):
    """All that a night tells."""
    return night.play, night.crew, night.at, night.due, night.log, night.events, night.over


class Walk:
    """A plain model of a night."""

    def __init__(self, play, crew):
        self.play, self.crew, self.log, self.shown = play, crew, (), ()
        self.node, self.here, self.deeds, self.behind = play.plan.first, standing_of(play.opening), (), None

    def told(self):
        return (self.play, self.crew, (self.node, self.here), self.deeds[0] if self.deeds else None, self.log, self.shown,
                ("curtain",) in self.log)

    def settle(self):
        if not self.deeds and self.behind is not None:
            self.node, self.behind = self.behind, None

    def call(self, number):
        self.deeds, self.behind = deeds_of(self.play, number, self.here), self.play.plan[number][2]
        self.log += (("call", number),)
        self.settle()

    def do(self, handling):
        deed = self.deeds[0]
        if deed[0] in ("pass", "turn", "exit"):
            shown = deed[:-1] + (handling[2],)
        else:
            shown = deed
        self.shown += events(picture_of(self.here), (shown,))
        self.here = played(self.crew, self.here, deed, handling)
        self.deeds = self.deeds[1:]
        self.log += (("do", handling),)
        self.settle()
        return self.here


class NightTest(Case):
    def test_an_evening(self):
        play, crew = duel(), Crew(2, beats=2)
        night = Night(play, crew)
        self.assertIs(night.play, play)
        self.assertIs(night.crew, crew)
        self.assertEqual(told(night)[2:], (play.beginning, None, (), (), False))
        self.assertIsNone(night.call(0))
        deeds = (("pass", "king", "queen", "right", "any"), ("turn", "king", "any"), ("move", "queen", "fan"))
        self.assertEqual((night.at, night.due, night.log), (play.beginning, deeds[0], (("call", 0),)))
        crossed = (("queen", "king"), (0, 0), (0, 0), ((1,), (2,)), BOTH)
        self.assertEqual(night.do(PLAY[0]), crossed)
        self.assertEqual((night.at, night.due), (("a", crossed), deeds[1]))
        self.assertEqual(night.events, (("pass", "king", "queen", "behind"),))
        night.do(PLAY[1])
        night.do(PLAY[2])
        after = (("queen", "king"), (0, 1), (0, 0), ((1,), (2,)), BOTH)
        self.assertEqual((night.at, night.due), (("b", after), None))
        self.assertIsNone(night.play_call(1, BACK))
        self.assertEqual(night.at, ("a", standing_of(TWO)))
        shows = (("pass", "king", "queen", "behind"), ("turn", "king", "left"), ("move", "queen", "fan"),
                 ("pass", "king", "queen", "before"), ("turn", "king", "right"))
        self.assertEqual(night.events, shows)
        self.assertFalse(night.over)
        self.assertIsNone(night.curtain())
        log = (("call", 0),) + tuple(("do", way) for way in PLAY) + (("call", 1),) + tuple(("do", way) for way in BACK)
        self.assertEqual(told(night)[2:], (("a", standing_of(TWO)), None, log + (("curtain",),), shows, True))

    def test_a_call_without_deeds(self):
        night = Night(duel(), Crew(1))
        night.call(2)
        self.assertEqual((night.at, night.due, night.log), (duel().beginning, None, (("call", 2),)))
        night.play_call(2, ())
        self.assertEqual(night.log, (("call", 2),) * 2)
        self.due(NotDue("do"), night.do, ((), None, None))

    def test_against_a_plain_model(self):
        seen = {"call": 0, "do": 0, "curtain": 0, "refused": 0}
        for rng, play, crew in sound_plays(103, 80):
            night, walk = Night(play, crew), Walk(play, crew)
            for _ in range(12):
                self.assertEqual(told(night), walk.told())
                self.assertTrue(only_tuples(told(night)[2:6]))
                self.act(rng, night, walk, seen)
        self.assertGreater(min(seen.values()), 30)

    def act(self, rng, night, walk, seen):
        """One more act; refused ones change nothing."""
        if night.over:
            for act, word in ((lambda: night.call(0), "call"), (lambda: night.do(None), "do"), (night.curtain, "curtain"),
                              (lambda: night.play_call(None, None), "call")):
                self.due(NotDue(word), act)
            seen["refused"] += 1
        elif night.due is not None:
            self.due(NotDue("call"), night.call, 0)
            self.due(NotDue("call"), night.play_call, 0, ())
            self.due(NotDue("curtain"), night.curtain)
            ways = list(handlings(walk.crew, walk.here, night.due))
            bad = ((("king",), ("queen",)), rng.choice((None, "before", "still")), rng.choice((None, "left", "behind")))
            word = why_not(walk.crew, walk.here, night.due, bad)
            if word is not None:
                number = len(walk.log) - 1 - max(at for at, entry in enumerate(walk.log) if entry[0] == "call")
                self.due(Unplayable(number, word), night.do, bad)
                seen["refused"] += 1
            if ways:
                way = rng.choice(ways)
                self.assertEqual(night.do(rng.choice((way, listed(way)))), walk.do(way))
                seen["do"] += 1
        else:
            self.due(NotDue("do"), night.do, ((), None, None))
            calls = walk.play.plan.calls_at(walk.node)
            for thing in (None, True, "0", -1, 10 ** 30, rng.randrange(130)):
                if thing not in calls or thing is True:
                    self.due(BadCall(thing), night.call, thing)
                    self.due(BadCall(thing), night.play_call, thing, ())
            self.fall(rng, night, walk, seen)
            if calls and not night.over:
                call = rng.choice(calls)
                self.assertIsNone(night.call(call))
                walk.call(call)
                seen["call"] += 1

    def fall(self, rng, night, walk, seen):
        if not walk.play.plan.is_end(walk.node):
            self.due(NotDue("curtain"), night.curtain)
        elif not is_free_standing(walk.here):
            self.due(Unplayable(-1, "free"), night.curtain)
        elif rng.random() < 0.2:
            self.assertIsNone(night.curtain())
            walk.log += (("curtain",),)
            seen["curtain"] += 1
            self.assertTrue(has_show(walk.play, night.events))

    def test_play_call(self):
        seen = [0, 0]
        for rng, play, crew in sound_plays(104, 60):
            night = Night(play, crew)
            for _ in range(5):
                node, here = night.at
                calls = play.plan.calls_at(node)
                if not calls:
                    break
                call = rng.choice(calls)
                deeds, playing, after = deeds_of(play, call, here), [], here
                for deed in deeds:
                    ways = list(handlings(crew, after, deed)) or [None]
                    playing.append(rng.choice(ways) if rng.random() < 0.95 else None)
                    after = played(crew, after, deed, playing[-1]) if playing[-1] else after
                    if playing[-1] is None:
                        break
                before = told(night)
                wrong = judge_playing(crew, here, deeds, playing)
                seen[wrong is None] += 1
                if wrong is not None:
                    self.due(Unplayable(*wrong), night.play_call, call, playing)
                    self.assertEqual(told(night), before)
                    continue
                other = night.copy()
                self.assertIsNone(night.play_call(call, listed(tuple(playing))))
                self.assertEqual(night.at, (play.plan[call][2], play_on(crew, here, deeds, playing)))
                other.call(call)
                for way in playing:
                    other.do(way)
                self.assertEqual(told(other), told(night))
                self.assertEqual(other, night)
        self.assertGreater(min(seen), 15)

    def test_all_or_none(self):
        night = Night(duel(), Crew(2, beats=2))
        before = told(night)
        for playing, number, word in ((PLAY[:2], -1, "form"), (None, -1, "form"), (PLAY[:2] + (None,), 2, "form"),
                                      (PLAY[:1] + (((), "along", "left"),) + PLAY[2:], 1, "bar"), ((), -1, "form")):
            self.due(Unplayable(number, word), night.play_call, 0, playing)
            self.assertEqual(told(night), before)
        self.due(BadCall(1), night.play_call, 1, None)

    def test_the_number_of_the_deed(self):
        night = Night(duel(), Crew(2, beats=2))
        night.play_call(0, PLAY)
        night.call(1)
        night.do(BACK[0])
        before = told(night)
        self.due(Unplayable(1, "script"), night.do, (BOTH, "along", "left"))
        for thing in NO_ROWS:
            self.due(Unplayable(1, "form"), night.do, thing)
        self.assertEqual(told(night), before)

    def test_shown_events(self):
        rng = random.Random(39)
        many = 0
        for _, play, crew in sound_plays(105, 60):
            night = Night(play, crew)
            open_events, here = (), standing_of(play.opening)
            for _ in range(4):
                calls = play.plan.calls_at(night.at[0])
                if not calls:
                    break
                call = rng.choice(calls)
                deeds = deeds_of(play, call, here)
                night.call(call)
                while night.due is not None:
                    ways = list(handlings(crew, night.at[1], night.due))
                    if not ways:
                        break
                    night.do(rng.choice(ways))
                if night.due is not None:
                    break
                open_events += events(picture_of(here), deeds)
                here = night.at[1]
                if len(open_events) < 9:
                    self.assertIn(night.events, list(shows_of(open_events)))
                    many += len(open_events)
        self.assertGreater(many, 50)

    def test_a_move_is_seen_from_the_front_only(self):
        play = play_of({"m": (("move", "king", "hand"), ("turn", "king", "any"), ("move", "king", "hand"))}, ["a m b"],
                       ends=("b",), opening=KING)
        night = Night(play, Crew(1))
        night.play_call(0, ((HOLD, None, None), (HOLD, "along", "right"), (HOLD, None, None)))
        self.assertEqual(night.events, (("move", "king", "hand"), ("turn", "king", "right")))


class CurtainTest(Case):
    def test_what_is_due(self):
        play = play_of({"l": LEFT, "e": ()}, ["a l b", "b e a"], ends=("b",), opening=KING)
        night = Night(play, Crew(1))
        self.due(NotDue("curtain"), night.curtain)
        night.call(0)
        self.due(NotDue("curtain"), night.curtain)
        night.do((HOLD, "still", "left"))
        self.assertEqual(may_end(play, Crew(1), night.at), "bound")
        self.due(Unplayable(-1, "free"), night.curtain)
        other = Night(play, Crew(1))
        other.play_call(0, ((HOLD, "along", "left"),))
        other.curtain()
        self.due(NotDue("curtain"), other.curtain)
        self.due(NotDue("call"), other.call, None)
        self.assertEqual(other.at, ("b", king(1)))

    def test_at_once(self):
        night = Night(duel(), Crew(1))
        night.curtain()
        self.assertEqual((night.log, night.over), ((("curtain",),), True))


class CopyTest(Case):
    def test_what_is_done_to_the_one_is_not_seen_in_the_other(self):
        night = Night(duel(), Crew(2, beats=2))
        night.call(0)
        night.do(PLAY[0])
        other = night.copy()
        before = told(night)
        self.assertEqual(told(other), before)
        other.do(PLAY[1])
        other.do(PLAY[2])
        other.call(3)
        other.curtain()
        self.assertEqual(told(night), before)
        copied = told(other)
        night.do((BOTH, "still", "left"))
        self.assertEqual(told(other), copied)
        self.assertNotEqual(night, other)

    def test_equal(self):
        night, other = Night(duel(), Crew(1)), Night(duel(), Crew(1))
        self.assertTrue(night == other)
        night.call(2)
        self.assertFalse(night == other)
        other.call(2)
        self.assertTrue(night == other)
        self.assertFalse(night == Night(duel(), Crew(1)))
        self.assertFalse(Night(duel(), Crew(1)) == Night(duel(), Crew(2)))
        self.assertFalse(Night(play_of({"e": ()}, []), Crew(1)) == Night(duel(), Crew(1)))
        for thing in NO_ROWS:
            self.assertFalse(night == thing)


class PromptedTest(Case):
    def test_evenings_by_a_prompter(self):
        many = 0
        for rng, play, crew, called in small_games(106, 80):
            if not called:
                continue
            prompter = Prompter(play, crew, called.table)
            night = Night(play, crew)
            calls, node = [], play.plan.first
            for _ in range(6):
                choices = play.plan.calls_at(node)
                if choices:
                    calls.append(rng.choice(choices))
                    node = play.plan[calls[-1]][2]
            found = prompted(night, prompter, tuple(calls))
            self.assertEqual(len(found), len(calls))
            self.assertTrue(only_tuples(found))
            self.assertEqual(found[-1:], (night.at,) if calls else ())
            self.assertEqual([entry[1] for entry in night.log if entry[0] == "call"], calls)
            for number, (node, standing) in enumerate(found):
                self.assertEqual(node, play.plan.node_behind(calls[:number + 1]))
                self.assertIn((node, standing), prompter)
                self.assertNotEqual(may_end(play, crew, (node, standing)), "bound")
            if play.plan.is_end(night.at[0]):
                night.curtain()
            many += len(calls)
        self.assertGreater(many, 100)

    def small(self):
        play = play_of({"l": LEFT, "r": (("turn", "king", "right"),), "e": ()}, ["a l b", "b r a", "b e b"], opening=KING)
        return play, Prompter(play, Crew(1), Called(play, Crew(1)).table)

    def test_errors_in_order(self):
        play, prompter = self.small()
        other = play_of({"e": (), "l": LEFT}, ["a l b", "a e b", "b e a"], ends=("a", "b"), opening=KING)
        night = Night(play, Crew(1))
        self.assertEqual(prompted(night, prompter, ()), ())
        for calls, error in (((0, 0), BadCall(0)), ((0, True), BadCall(True)), ((0, None), BadCall(None))):
            fresh = Night(play, Crew(1))
            self.due(error, prompted, fresh, prompter, calls)
            # What was played before stays.
            self.assertEqual(fresh.at, ("b", king(1)))
        fresh = Night(other, Crew(1))
        self.due(BadCall(2), prompted, fresh, prompter, (2,))
        self.due(BadCall(1), prompted, fresh, prompter, (1,))
        self.assertEqual(fresh.log, ())
        fresh.play_call(1, ())
        self.due(NotThere(("b", king(0, 0, ()))), prompted, fresh, prompter, (2,))
        fresh = Night(play, Crew(1, beats=0))
        self.due(Unplayable(0, "far"), prompted, fresh, prompter, (0,))
        self.assertEqual(fresh.log, ())
        fresh.call(0)
        self.due(NotDue("call"), prompted, fresh, prompter, (None,))

    def test_a_list_of_calls(self):
        play, prompter = self.small()
        night = Night(play, Crew(1))
        calls = [0, 2, 1]
        found = prompted(night, prompter, calls)
        self.assertEqual([node for node, _ in found], ["b", "b", "a"])
        self.assertEqual(calls, [0, 2, 1])


class NightErrorsTest(Case):
    def test_a_play_that_is_not_sound(self):
        self.due(Spoilt((0,)), Night, play_of({"bad": LEFT}, ["a bad a"]), Crew(1))

    def test_a_night_has_no_bound_on_standings(self):
        """A night only goes where it is led; there may be more ways than are found."""
        turns = (("repeat", 3, tuple(("turn", name, "any") for name in ("king", "queen", "fool"))),)
        play = play_of({"t": turns}, ["a t a"], opening=(("king", "queen", "fool"), (0, 0, 0)))
        crew = Crew(3, beats=3, winds=3)
        self.due(TooMany("standing"), Called, play, crew)
        night = Night(play, crew)
        night.call(0)
        hold = (("fool",), ("king",), ("queen",))
        for _ in range(9):
            night.do((hold, "along", "left"))
        self.assertEqual(night.at[0], "a")
