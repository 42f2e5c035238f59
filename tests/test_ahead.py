"""The opening part of the interface, over all modules: what goes ahead of all other errors, and what is left as it was."""

import copy

from freestrung.arena import answers, may_end, positions
from freestrung.called import Called
from freestrung.clearing import Clearing, judge_lot
from freestrung.crews import Crew
from freestrung.errors import Spoilt, StrungError, TooMany
from freestrung.evenings import lot_after
from freestrung.falls import Falls, fallen, judge_falls, most_falls
from freestrung.fixed import Fixed
from freestrung.journal import read_journal, taken_up
from freestrung.judges import judge_caller, judge_crew
from freestrung.known import Known, judge_lots
from freestrung.leastcrews import least_crews
from freestrung.mends import fewest_mends, mended
from freestrung.nights import Night
from freestrung.notice import Noticed, fewest_notice
from freestrung.orders import Cheapest, judge_prices
from freestrung.outcomes import cheap_outcomes, lot_behind, outcomes
from freestrung.playtext import write_play
from freestrung.prompts import Prompter, read_prompt, write_prompt
from freestrung.standings import standing_of
from tests.helpers import KQF, WIDE_SCENES, Case, listed, play_of, wide_calls
from tests.test_called import KING, LEFT, TURNED

# Each with arguments behind the play and the crew that are wrong, or would be asked for something.
WITH_CREW = (
    (lot_after, (None,)), (lot_after, ((0, 0, 0),)), (Known, ()), (judge_lots, ((),)), (judge_lots, ((None,),)), (Fixed, (None,)),
    (Fixed, ((),)), (positions, ()), (answers, (None, None)), (may_end, (None,)), (Called, ()), (judge_crew, ((),)),
    (judge_caller, ((),)), (judge_caller, ((None,),)), (fewest_notice, ()), (least_crews, (Crew(4),)),
    (least_crews, (Crew(1, reach=0),)), (fewest_mends, (None,)), (fewest_mends, (2,)), (Prompter, ((),)), (Night, ()), (Falls, (None,)),
    (Falls, (0,)), (judge_falls, (None, ())), (judge_falls, (0, ())), (most_falls, ()),
)


class AheadTest(Case):
    def test_a_play_that_is_not_sound(self):
        bad = play_of({"bad": LEFT, "e": (), "sa": (), "sb": (), "sc": (), "sd": ()}, ["a e a", "a bad b", "b bad a"])
        for call, more in WITH_CREW:
            self.due(Spoilt((1,)), call, bad, Crew(1), *more)
        self.assertEqual(len(Noticed(bad.changed(book=play_of({"bad": LEFT, "e": ()}, []).book), 0)), 3)

    def test_the_least_row_is_told(self):
        late = play_of({"come": (("enter", "king", "left"),), "e": ()}, ["a e b", "b come c", "a come c", "c e d", "d come a"],
                       ends=("a",))
        for call, more in WITH_CREW:
            self.due(Spoilt((2, 3, 4)), call, late, Crew(1), *more)

    def test_too_many_pictures(self):
        wide = play_of(WIDE_SCENES, wide_calls(21, 1), first="ta", ends=("pa",), opening=KQF)
        for call, more in WITH_CREW:
            self.due(TooMany("picture"), call, wide, Crew(1), *more)

    def test_journals_of_plays_that_are_not_sound(self):
        bad = play_of({"bad": LEFT}, ["a bad a"])
        lines = write_play(bad) + ("crew 1 1 1 6 1",)
        self.due(Spoilt((0,)), read_journal, lines + ("call 7",))
        self.due(Spoilt((0,)), taken_up, lines + ("call 7", "Bad"))


class AsItWasTest(Case):
    def test_lists_are_as_they_were(self):
        play, crew = play_of(TURNED, ["a l b", "b r a", "b e b"], opening=KING), Crew(2)
        begun = standing_of(KING)
        called = Called(play, crew)
        lots = Known(play, crew).table
        falls = Falls(play, crew, 1).table
        lines = write_prompt(called.table)
        matinee = (play.book, crew, begun, ("l", "r"))
        prices = Cheapest(*matinee).table
        playing = called.table[0][2][0]
        calls = (
            (lambda *told: outcomes(crew, *told), begun, (LEFT[0],)), (lambda *told: cheap_outcomes(crew, *told), begun, (LEFT[0],)),
            (lambda *told: lot_behind(crew, *told), (begun, begun), (LEFT[0],)),
            (lambda lot: judge_lot(crew, lot), (begun,)), (lambda told: tuple(Clearing(crew, told)), begun),
            (lambda row: lot_after(play, crew, row), (0, 2, 1)), (lambda table: judge_lots(play, crew, table), lots),
            (lambda told: Fixed(play, crew, told).table, (playing, called.table[1][2][0], ())),
            (lambda *told: answers(play, crew, *told), ("a", begun), 0), (lambda told: may_end(play, crew, told), ("a", begun)),
            (lambda table: judge_crew(play, crew, table), called.table), (called.rank, ("a", begun)),
            (lambda told: told in called, ("a", begun)), (lambda table: judge_caller(play, crew, table), (("a", begun, 0, 1),)),
            (lambda table: judge_falls(play, crew, 1, table), falls), (lambda told: fallen(crew, told), ("a", begun, 0)),
            (lambda *told: Cheapest(*matinee[:2], *told).table, begun, ("l", "r")),
            (lambda *told: judge_prices(*matinee[:2], *told), begun, ("l", "r"), prices), (write_prompt, called.table),
            (read_prompt, lines), (lambda told: tuple(Prompter(play, crew, told)), called.table),
            (lambda told: mended(play.book, told).scenes, (("open", "l", 0), ("rest", "r", 0))),
            (lambda told: Night(play, crew).play_call(0, told), playing),
        )
        for call, *passed in calls:
            self.same_with_lists(call, *passed)

    def test_what_is_passed_is_kept(self):
        """What is changed later is not seen in what was made of it."""
        play, crew = play_of(TURNED, ["a l b", "b r a", "b e b"], opening=KING), Crew(2)
        table = listed(Called(play, crew).table)
        prompter = Prompter(play, crew, table)
        before = tuple(prompter)
        table[0][2][0][0][2] = "right"
        table.pop()
        self.assertEqual(tuple(prompter), before)
        handling = [[["king"]], "along", "left"]
        night = Night(play, crew)
        night.call(0)
        night.do(handling)
        handling[0][0][0] = "queen"
        self.assertEqual(night.log[1], ("do", ((("king",),), "along", "left")))

    def test_errors_bear_what_was_passed(self):
        play, crew = play_of(TURNED, ["a l b", "b r a"], opening=KING), Crew(2)
        for call, name in ((lambda thing: may_end(play, crew, thing), "position"), (Called(play, crew).rank, "position"),
                           (Prompter(play, crew, Called(play, crew).table), "position")):
            thing = ["c", listed(standing_of(KING))]
            kept = copy.deepcopy(thing)
            with self.assertRaises(StrungError) as caught:
                call(thing, 0) if isinstance(call, Prompter) else call(thing)
            self.assertIs(vars(caught.exception)[name], thing)
            self.assertEqual(thing, kept)
