"""Point 30: evenings, in order and counted, and the lot of a row of calls."""

import inspect
import itertools

from freestrung.crews import Crew
from freestrung.errors import BadMost, BadRow, Spoilt, TooMany
from freestrung.evenings import evening_counts, evenings, lot_after
from freestrung.outcomes import lot_behind
from freestrung.standings import standing_of
from tests.helpers import KQF, NO_ROWS, Case, listed, only_tuples, play_of
from tests.models import deeds_of
from tests.samples import sound_plays

REST = (("rest",),)
SPOILT = {"ok": (), "bad": (("turn", "king", "any"),)}
TURN = (("turn", "king", "left"),)
KING = (("king",), (0,))


def tree(*calls, ends=("a",), first="a"):
    return play_of({"x": REST, "y": ()}, calls, ends=ends, first=first)


def evenings_model(play, most):
    rows = [row for many in range(most + 1) for row in itertools.product(range(len(play.plan)), repeat=many)]
    found = []
    for row in rows:
        try:
            found += [row] if play.plan.is_evening(row) else []
        except BadRow:
            pass
    return found


class EveningsTest(Case):
    def test_in_order(self):
        play = tree("a x b", "b x a", "a y a", "b y c", ends=("a", "c"))
        self.assertEqual(list(evenings(play, 0)), [()])
        self.assertEqual(list(evenings(play, 3)), [
            (), (2,), (0, 1), (0, 3), (2, 2), (0, 1, 2), (2, 0, 1), (2, 0, 3), (2, 2, 2)])

    def test_against_all_rows(self):
        many = 0
        for _, play, _ in sound_plays(81, 60):
            wanted = evenings_model(play, 4)
            self.assertEqual(list(evenings(play, 4)), wanted)
            for most in range(5):
                counts = tuple(sum(len(row) == number for row in wanted) for number in range(most + 1))
                self.assertEqual(evening_counts(play, most), counts)
            many += len(wanted)
        self.assertGreater(many, 500)

    def test_the_first_node_is_no_end(self):
        play = tree("a x b", "b x b", ends=("b",))
        self.assertEqual(list(evenings(play, 3)), [(0,), (0, 1), (0, 1, 1)])
        self.assertEqual(evening_counts(play, 3), (0, 1, 1, 1))
        self.assertEqual(list(evenings(play, 0)), [])
        self.assertEqual(evening_counts(play, 0), (0,))

    def test_no_calls(self):
        self.assertEqual(list(evenings(tree(), 60)), [()])
        self.assertEqual(evening_counts(tree(), 60), (1,) + (0,) * 60)

    def test_long_evenings(self):
        wide = tree("a x a", "a y a")
        self.assertEqual(evening_counts(wide, 60), tuple(2 ** number for number in range(61)))
        self.assertEqual(list(itertools.islice(evenings(wide, 60), 5)), [(), (0,), (1,), (0, 0), (0, 1)])
        ring = tree("a x b", "b x a")
        self.assertEqual(list(evenings(ring, 60)), [(0, 1) * half for half in range(31)])
        blind = tree(*(f"{one} {scene} {two}" for one, two in zip("abcdefgh", "bcdefghi") for scene in "xy"), ends=("i",))
        self.assertEqual(len(list(evenings(blind, 60))), 256)
        self.assertEqual(list(evenings(blind, 7)), [])

    def test_most(self):
        for thing in NO_ROWS + (-1, 61, True, False, "1", (1,), 10 ** 30):
            if not isinstance(thing, int) or isinstance(thing, bool) or not 0 <= thing <= 60:
                self.due_as_passed(BadMost, "most", thing, evening_counts, tree(), thing)
                generator = evenings(tree(), thing)
                self.assertTrue(inspect.isgenerator(generator))
                self.due_as_passed(BadMost, "most", thing, list, generator)

    def test_a_play_that_is_not_sound_has_evenings(self):
        play = play_of(SPOILT, ["a bad a"])
        self.assertEqual(list(evenings(play, 2)), [(), (0,), (0, 0)])
        self.assertEqual(evening_counts(play, 2), (1, 1, 1))
        self.due(Spoilt((0,)), lot_after, play, Crew(1), None)

    def test_nothing_is_done_ahead(self):
        self.assertTrue(inspect.isgeneratorfunction(evenings))
        evenings(None, None)


class LotAfterTest(Case):
    def test_call_by_call(self):
        several = empty = 0
        for rng, play, crew in sound_plays(82, 80):
            row, lot = (), (standing_of(play.opening),)
            for _ in range(4):
                self.assertEqual(lot_after(play, crew, row), lot)
                self.assertEqual(lot_after(play, crew, listed(row)), lot)
                calls = play.plan.calls_at(play.plan.node_behind(row))
                if not calls:
                    break
                call = rng.choice(calls)
                row += (call,)
                if lot:
                    try:
                        lot = lot_behind(crew, lot, deeds_of(play, call, lot[0]))
                    except TooMany as why:
                        self.due(why, lot_after, play, crew, row)
                        break
                several += len(lot) > 5
                empty += not lot
        self.assertGreater(several, 10)
        self.assertGreater(empty, 5)

    def test_an_empty_lot(self):
        play = play_of({"t": TURN, "e": ()}, ["a t a", "a e a"], opening=KING)
        self.assertEqual(lot_after(play, Crew(1, beats=0), (1, 0)), ())
        self.assertEqual(lot_after(play, Crew(1, beats=0), (1, 0, 0, 1)), ())
        self.assertEqual(lot_after(play, Crew(1, beats=0), (1,)), (standing_of(KING),))

    def test_the_beginning(self):
        lot = lot_after(tree(), Crew(1), ())
        self.assertEqual(lot, (standing_of(((), ())),))
        self.assertTrue(only_tuples(lot))

    def test_errors(self):
        play = tree("a x b", "b x a", ends=("a",))
        for thing in NO_ROWS:
            self.due(BadRow(-1), lot_after, play, Crew(1), thing)
        for row, number in (((1,), 0), ((0, 0), 1), ((0, 1, 2), 2), ((True,), 0), ((None,), 0), ((0, "1"), 1), ((-1,), 0)):
            self.due(BadRow(number), lot_after, play, Crew(1), row)

    def test_too_many_standings(self):
        turns = tuple(("turn", name, "any") for name in ("king", "queen", "fool"))
        scenes = {"t": (("repeat", 3, turns),), "r": REST}
        play = play_of(scenes, ["a t a", "a r a"], opening=KQF)
        crew = Crew(3, beats=3, winds=3)
        self.due(TooMany("standing"), lot_after, play, crew, (1, 0))
        # The whole row is judged ahead of all that it leads to.
        self.due(BadRow(2), lot_after, play, crew, (1, 0, 7))
        self.assertEqual(len(lot_after(play, crew, (1,))), 12)
