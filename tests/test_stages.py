"""Points 26 and 27 with the stages of the interface: what is done and taken back, and trials."""

from freestrung.crews import Crew
from freestrung.errors import BadDeed, BadStanding, Unplayable
from freestrung.holds import far
from freestrung.lies import Lie
from freestrung.stages import Stage, Trial, tried
from tests.helpers import NO_ROWS, Case, listed, only_tuples
from tests.test_handlings import NOTHING, PASS, of_two, random_standings
from tests.test_playings import random_playing

REST = ("rest",)
BOTH = (("a",), ("b",))
CREW = Crew(2, beats=2)
TAKE = (REST, (BOTH, None, None))
CROSS = (PASS, (BOTH, "behind", "before"))
TURN = (("turn", "b", "any"), (BOTH, "still", "left"))


def told(stage):
    """All that a stage tells."""
    return stage.crew, stage.standing, stage.view, stage.done, stage.moves


def crossed():
    """A stage on which a few things were done."""
    stage = Stage(CREW, of_two())
    for deed, handling in (TAKE, CROSS, TURN):
        stage.do(deed, handling)
    return stage


class StageTest(Case):
    def test_a_new_stage(self):
        crew = Crew(1)
        standing = of_two(Lie.rounded(2, 0).words, (1, -1), (("a",),))
        for thing in (standing, listed(standing)):
            stage = Stage(crew, thing)
            self.assertIs(stage.crew, crew)
            self.assertEqual(told(stage), (crew, standing, (("a", "b"), (0, 0)), (), 0))
            self.assertTrue(only_tuples(stage.standing) and only_tuples(stage.view))
            self.assertIsNone(stage.undo())
            self.assertEqual(told(stage)[1:], (standing, (("a", "b"), (0, 0)), (), 0))

    def test_what_is_done(self):
        for rng, crew, standing in random_standings(31, 40):
            deeds, playing, after, moves = random_playing(rng, crew, standing, 6)
            stage = Stage(crew, standing)
            here, states = standing, []
            for deed, handling in zip(deeds, playing):
                states.append(told(stage))
                after_one = stage.do(listed(deed), listed(handling))
                self.assertEqual(after_one, stage.standing)
                self.assertTrue(only_tuples(after_one))
                self.assertEqual(stage.view, (stage.standing[0], stage.standing[1]))
                here = after_one
            self.assertEqual(told(stage), (crew, after, after[:2], tuple(zip(deeds, playing)), moves))
            self.assertEqual(here, after)
            self.assertTrue(only_tuples(stage.done))
            for pair, state in reversed(list(zip(zip(deeds, playing), states))):
                self.assertEqual(stage.undo(), pair)
                self.assertEqual(told(stage), state)
            self.assertIsNone(stage.undo())
            self.assertEqual(stage.standing, standing)

    def test_moves(self):
        stage = crossed()
        self.assertEqual(stage.moves, 2)
        self.assertEqual(stage.moves, far(CREW, ("a", "b"), (), BOTH))
        stage.do(REST, ((("a",),), None, None))
        self.assertEqual(stage.moves, 3)
        stage.undo()
        self.assertEqual(stage.moves, 2)

    def test_put(self):
        stage = crossed()
        other = of_two(winds=(1, 0))
        self.assertIsNone(stage.put(listed(other)))
        self.assertEqual(told(stage), (CREW, other, (("a", "b"), (0, 0)), (), 0))
        self.assertTrue(only_tuples(stage.standing))
        self.assertIsNone(stage.undo())
        stage.put(((),) * 5)
        self.assertEqual(stage.view, ((), ()))

    def test_errors_change_nothing(self):
        stage = crossed()
        before = told(stage)
        for call, more, error in (
            (stage.put, (None,), BadStanding("row")), (stage.put, (of_two(winds=(2, 0)),), BadStanding("winds")),
            (stage.put, (of_two(hold=(("c",),)),), BadStanding("hold")),
            (stage.do, (PASS, None), BadDeed(PASS)), (stage.do, (None, None), BadDeed(None)),
            (stage.do, (("turn", "c", "any"), CROSS[1]), BadDeed(("turn", "c", "any"))),
            (stage.do, (REST, None), Unplayable(0, "form")), (stage.do, TURN, Unplayable(0, "wind")),
            (stage.do, (REST, (((("c",),)), None, None)), Unplayable(0, "hold")),
        ):
            self.due(error, call, *more)
            self.assertEqual(told(stage), before)
        self.assertEqual(stage.undo(), TURN)
        for thing in NO_ROWS:
            self.due_as_passed(BadDeed, "deed", thing, stage.do, thing, None)
            self.due(BadStanding("row"), Stage, CREW, thing)
        self.due(BadStanding("lie"), Stage, Crew(1, bears=5), of_two(Lie.rounded(2, 0).words))

    def test_copies(self):
        stage = crossed()
        other = stage.copy()
        self.assertIsInstance(other, Stage)
        self.assertEqual(told(other), told(stage))
        self.assertTrue(other == stage)
        before = told(stage)
        other.undo()
        other.do(REST, (BOTH, None, None))
        self.assertEqual(told(stage), before)
        self.assertFalse(other == stage)
        other.put(of_two())
        self.assertEqual(told(stage), before)
        stage.undo()
        self.assertEqual(other.done, ())
        self.assertEqual(crossed().copy().undo(), TURN)

    def test_equal(self):
        self.assertTrue(crossed() == crossed())
        self.assertFalse(crossed() != crossed())
        shorter = Stage(CREW, crossed().standing)
        self.assertEqual(shorter.standing, crossed().standing)
        self.assertFalse(shorter == crossed())
        self.assertFalse(Stage(Crew(1), of_two()) == Stage(CREW, of_two()))
        self.assertFalse(Stage(CREW, of_two()) == Stage(CREW, of_two(winds=(1, 0))))
        self.assertFalse(Stage(CREW, of_two()) == Stage(CREW, of_two()).standing)
        self.assertFalse(Stage(CREW, of_two()) == None)  # noqa: E711
        # The same deeds, begun at standings that differ in their hold alone, leave the same.
        one, two = Stage(CREW, of_two()), Stage(CREW, of_two(hold=(("a",),)))
        self.assertFalse(one == two)
        for stage in (one, two):
            stage.do(*TAKE)
        self.assertTrue(one == two)


class TrialTest(Case):
    def test_the_stage_is_as_it_was(self):
        stage = crossed()
        before = told(stage)
        for change in (lambda: None, stage.undo, lambda: stage.do(REST, (BOTH, None, None)),
                       lambda: stage.put(of_two()), lambda: (stage.undo(), stage.undo(), stage.do(*CROSS)),
                       lambda: (stage.put(of_two()), stage.do(*TAKE), stage.undo(), stage.undo())):
            with Trial(stage) as held:
                self.assertIs(held, stage)
                self.assertEqual(told(stage), before)
                change()
            self.assertEqual(told(stage), before)
        self.assertEqual(stage.undo(), TURN)

    def test_a_block_that_raises(self):
        stage = crossed()
        before = told(stage)
        for error in (KeyError, KeyboardInterrupt, GeneratorExit):
            with self.assertRaises(error):
                with Trial(stage):
                    stage.put(of_two())
                    raise error
            self.assertEqual(told(stage), before)
        with self.assertRaises(Unplayable) as caught:
            with Trial(stage):
                stage.undo()
                stage.do(REST, None)
        self.assertEqual((caught.exception.number, caught.exception.word), (0, "form"))
        self.assertEqual(told(stage), before)

    def leave(self, stage):
        with Trial(stage):
            stage.undo()
            return stage.standing

    def test_a_block_that_is_left(self):
        stage = crossed()
        self.assertEqual(self.leave(stage)[2], (0, 0))
        for _ in range(3):
            with Trial(stage):
                stage.undo()
                break
        self.assertEqual(told(stage), told(crossed()))

    def test_trials_within_one_another(self):
        stage = crossed()
        states = [told(stage)]
        with Trial(stage):
            stage.undo()
            states.append(told(stage))
            with Trial(stage):
                stage.undo()
                states.append(told(stage))
                with Trial(stage):
                    stage.put(of_two(winds=(1, 1)))
                self.assertEqual(told(stage), states[2])
            self.assertEqual(told(stage), states[1])
            stage.undo()
        self.assertEqual(told(stage), states[0])

    def test_one_trial_used_again(self):
        stage = crossed()
        trial = Trial(stage)
        before = told(stage)
        with trial:
            stage.undo()
            inner = told(stage)
            with trial:
                stage.undo()
                with trial as held:
                    self.assertIs(held, stage)
                    stage.put(of_two())
                self.assertEqual(stage.done, (TAKE,))
            self.assertEqual(told(stage), inner)
        self.assertEqual(told(stage), before)
        # The stage may be another one by the time when the trial is used again.
        stage.undo()
        with trial:
            stage.undo()
        self.assertEqual(told(stage), inner)

    def test_two_stages(self):
        one, two = crossed(), crossed()
        with Trial(one), Trial(two):
            one.undo()
            two.put(of_two())
            self.assertEqual(len(one.done), 2)
        self.assertTrue(one == two == crossed())


class TriedTest(Case):
    def test_the_standing_behind(self):
        for rng, crew, standing in random_standings(32, 40):
            deeds, playing, after, _ = random_playing(rng, crew, standing, 6)
            stage = Stage(crew, standing)
            pairs = tuple(zip(deeds, playing))
            before = told(stage)
            self.assertEqual(tried(stage, pairs), after)
            self.assertEqual(tried(stage, listed(pairs)), after)
            self.assertTrue(only_tuples(tried(stage, listed(pairs))))
            self.assertEqual(told(stage), before)
            stage.do(REST, (standing[4],) + NOTHING)
            self.assertEqual(tried(stage, ()), standing)
            self.assertEqual(len(stage.done), 1)

    def test_errors_as_they_come(self):
        stage = Stage(CREW, of_two())
        before = told(stage)
        for pairs, error in (
            ((TAKE, CROSS, CROSS), BadDeed(PASS)), ((TAKE, CROSS, TURN, TURN, (None, None)), Unplayable(3, "wind")),
            ((TAKE, (REST, None), CROSS, CROSS), Unplayable(1, "form")), (((None, None),), BadDeed(None)),
            ((TURN, TURN), Unplayable(1, "wind")), ((TAKE, TURN, TURN), Unplayable(2, "wind")),
        ):
            self.due(error, tried, stage, pairs)
            self.assertEqual(told(stage), before)
        self.assertEqual(tried(stage, (TAKE, CROSS, TURN)), crossed().standing)

    def test_behind_what_was_done(self):
        stage = crossed()
        again = ("pass", "b", "a", "right", "any"), (BOTH, "before", "behind")
        self.assertEqual(tried(stage, [again]), stage.do(*again))
        self.assertEqual(stage.standing[3], ((1,), (2,)))
