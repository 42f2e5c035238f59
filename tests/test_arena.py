"""Point 33: positions, answers, and ends at which the evening may be ended."""

from freestrung.arena import answers, may_end, positions
from freestrung.crews import Crew
from freestrung.errors import BadCall, NotThere, Spoilt, TooMany
from freestrung.outcomes import outcomes
from freestrung.sound import Sound
from freestrung.standings import is_free_standing, picture_of, standing_of
from tests.helpers import KQF, NO_ROWS, STRONG, Case, listed, only_tuples, play_of, winding_play
from tests.models import begun, deeds_of, positions_model
from tests.samples import sound_plays

KING = (("king",), (0,))
LEFT = (("turn", "king", "left"),)
HELD = (("king",), (1,), (0,), ((1,),), (("king",),))
WOUND = (("king",), (1,), (1,), ((1,),), (("king",),))
TURNS = (("repeat", 3, tuple(("turn", name, "any") for name in KQF[0])),)


def small():
    return play_of({"t": LEFT, "e": ()}, ["a t b", "b e b"], ends=("a", "b"), opening=KING)


class PositionsTest(Case):
    def test_a_small_play(self):
        found = positions(small(), Crew(1))
        self.assertEqual(found, (("a", standing_of(KING)), ("b", HELD), ("b", WOUND)))
        self.assertTrue(only_tuples(found))

    def test_no_calls(self):
        play = play_of({"e": ()}, [])
        self.assertEqual(positions(play, Crew(1)), (play.beginning,))

    def test_a_call_without_an_answer(self):
        self.assertEqual(positions(small(), Crew(1, beats=0)), (small().beginning,))

    def test_against_the_definition(self):
        sizes = []
        for _, play, crew in sound_plays(86, 150):
            try:
                found = positions(play, crew)
            except TooMany:
                continue
            if len(found) <= 150:
                self.assertEqual(found, positions_model(play, crew))
                sizes.append(len(found))
        self.assertGreater(max(sizes), 40)

    def test_six_hundred_positions(self):
        self.assertEqual(len(positions(winding_play(12, 7), Crew(**STRONG))), 600)
        self.due(TooMany("position"), positions, winding_play(13, 7), Crew(**STRONG))

    def test_too_many_standings_in_their_order(self):
        crew = Crew(3, beats=3, winds=3)
        self.due(TooMany("standing"), positions, play_of({"t": TURNS}, ["a t a"], opening=KQF), crew)
        self.assertEqual(len(positions(play_of({"t": TURNS}, ["a t a"], opening=KQF), Crew(3, beats=0))), 1)


class AnswersTest(Case):
    def test_a_small_play(self):
        hold = (("king",),)
        told = answers(small(), Crew(1), small().beginning, 0)
        self.assertEqual(told, ((HELD, ((hold, "along", "left"),)), (WOUND, ((hold, "still", "left"),))))
        self.assertEqual(answers(small(), Crew(1), ("b", WOUND), 1), ((WOUND, ()),))

    def test_a_call_without_an_answer(self):
        self.assertEqual(answers(small(), Crew(1, beats=0), small().beginning, 0), ())

    def test_they_are_the_outcomes(self):
        many = 0
        for _, play, crew in sound_plays(87, 60):
            try:
                found = positions(play, crew)
            except TooMany:
                continue
            for position in found[:20]:
                for call in play.plan.calls_at(position[0]):
                    wanted = outcomes(crew, position[1], deeds_of(play, call, position[1]))
                    self.assertEqual(answers(play, crew, position, call), wanted)
                    told = answers(play, crew, listed(position), call)
                    self.assertEqual(told, wanted)
                    self.assertTrue(only_tuples(told))
                    self.assertLessEqual({(play.plan[call][2], after) for after, _ in told}, set(found))
                    many += 1
        self.assertGreater(many, 200)

    def test_a_position_that_does_not_come_about(self):
        """A position need only have a picture to which rows of calls lead there."""
        other = HELD[:2] + ((-1,), ((1,),), ())
        self.assertNotIn(("b", other), positions(small(), Crew(1)))
        self.assertEqual(answers(small(), Crew(1), ("b", other), 1), ((other, ()),))

    def test_errors(self):
        begun_here = small().beginning
        for thing in (None, True, False, -1, 1, 2, "0", (0,), 10 ** 30):
            self.due_as_passed(BadCall, "number", thing, answers, small(), Crew(1), begun_here, thing)
        play = play_of({"t": TURNS}, ["a t a"], opening=KQF)
        self.due(TooMany("standing"), answers, play, Crew(3, beats=3, winds=3), play.beginning, 0)


class MayEndTest(Case):
    def test_each_word(self):
        play = play_of({"t": LEFT, "e": ()}, ["a t b", "b e a"], ends=("b",), opening=KING)
        self.assertIsNone(may_end(play, Crew(1), ("a", standing_of(KING))))
        self.assertIsNone(may_end(play, Crew(1), ("a", WOUND)))
        self.assertEqual(may_end(play, Crew(1), ("b", listed(HELD))), "free")
        self.assertEqual(may_end(play, Crew(1), ["b", WOUND]), "bound")

    def test_against_the_definition(self):
        seen = set()
        for _, play, crew in sound_plays(88, 60):
            try:
                found = positions(play, crew)
            except TooMany:
                continue
            for node, standing in found:
                word = ("free" if is_free_standing(standing) else "bound") if play.plan.is_end(node) else None
                self.assertEqual(may_end(play, crew, (node, standing)), word)
                seen.add(word)
        self.assertEqual(seen, {"free", "bound", None})


class NotThereTest(Case):
    CALLS = (lambda *told: answers(*told, 0), may_end)

    def test_what_is_no_position(self):
        begun_here = standing_of(KING)
        things = NO_ROWS + (
            ("a",), ("a", begun_here, 0), ("c", begun_here), (["a"], begun_here), (None, begun_here), (True, begun_here),
            ("a", None), ("a", begun_here[:4]), ("a", WOUND[:2] + ((2,),) + WOUND[3:]), ("a", HELD), ("b", begun_here),
            ("a", begun_here[:4] + ((("queen",),),)), ("a", standing_of((("queen",), (0,)))),
            ("a", begun_here[:1] + ((False,),) + begun_here[2:]), ("b", begun(small())),
        )
        for call in self.CALLS:
            for thing in things:
                self.due_as_passed(NotThere, "position", thing, call, small(), Crew(1), thing)
                if isinstance(thing, tuple):
                    self.due(NotThere(listed(thing)), call, small(), Crew(1), listed(thing))

    def test_for_another_crew(self):
        self.assertEqual(may_end(small(), Crew(1, winds=1), ("b", WOUND)), "bound")
        self.due(NotThere(("b", WOUND)), may_end, small(), Crew(1, winds=0), ("b", WOUND))

    def test_ahead_of_the_call(self):
        self.due(NotThere(None), answers, small(), Crew(1), None, None)
        self.due(Spoilt((0,)), answers, play_of({"bad": LEFT}, ["a bad a"]), Crew(1), None, None)
        self.due(Spoilt((0,)), may_end, play_of({"bad": LEFT}, ["a bad a"]), Crew(1), None)
        self.due(Spoilt((0,)), positions, play_of({"bad": LEFT}, ["a bad a"]), Crew(1))

    def test_each_picture_that_rows_lead_to(self):
        for _, play, crew in sound_plays(89, 30):
            for node, picture in Sound(play):
                self.assertIn(may_end(play, crew, (node, standing_of(picture))), ("free", None))
            for node in play.plan.nodes:
                for _, picture in Sound(play):
                    if (node, picture) not in Sound(play):
                        self.assertEqual(picture_of(standing_of(picture)), picture)
                        position = (node, standing_of(picture))
                        self.due(NotThere(position), may_end, play, crew, position)
