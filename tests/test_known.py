"""Point 31: evenings known ahead, and tables of lots."""

from freestrung.crews import Crew
from freestrung.errors import Spoilt, TooMany
from freestrung.evenings import evenings, lot_after
from freestrung.known import Known, judge_lots
from freestrung.sound import Sound
from freestrung.standings import is_free_standing, standing_of
from tests.helpers import KQF, NO_ROWS, Case, calm_play, listed, only_tuples, play_of
from tests.models import judge_lots_model
from tests.samples import sound_plays

KING = (("king",), (0,))
EMPTY = ((), ())
ONE = Crew(1, reach=0, beats=3, bears=0, winds=0)
LEFT = (("turn", "king", "left"),)
STILL = Crew(1, beats=0)


def table_model(play, crew):
    """The pairs of a node and a lot of all rows of calls, in the order of least rows; and the evening that fails."""
    found, rows = [], [()]
    while rows:
        behind = []
        for row in rows:
            node, lot = play.plan.node_behind(row), lot_after(play, crew, row)
            if (node, lot) in found:
                continue
            if play.plan.is_end(node) and not any(map(is_free_standing, lot)):
                return None, row
            found.append((node, lot))
            behind += [row + (call,) for call in play.plan.calls_at(node)]
        rows = behind
    return tuple(found), None


class KnownTest(Case):
    def test_a_small_play(self):
        play = play_of({"t": LEFT, "e": ()}, ["a t b", "b e b"], ends=("a", "b"), opening=KING)
        known = Known(play, Crew(1))
        after = (("king",), (1,), (0,), ((1,),), (("king",),))
        wound = (("king",), (1,), (1,), ((1,),), (("king",),))
        table = (("a", (standing_of(KING),)), ("b", (after, wound)))
        self.assertEqual((bool(known), known.row, known.table), (True, None, table))
        self.assertEqual((len(known), tuple(known)), (2, table))

    def test_an_evening_that_cannot_be_played(self):
        play = play_of({"t": LEFT, "e": ()}, ["a e b", "a t b", "b e c", "b t c"], ends=("c",), opening=KING)
        known = Known(play, STILL)
        self.assertEqual((bool(known), known.row, known.table), (False, (0, 3), None))
        self.assertEqual((len(known), list(known)), (0, []))

    def test_the_first_node_is_an_end(self):
        known = Known(play_of({"e": ()}, []), Crew(1))
        self.assertEqual(known.table, (("a", (standing_of(EMPTY),)),))
        self.assertIs(bool(known), True)

    def test_against_all_rows(self):
        told = [0, 0]
        for _, play, crew in sound_plays(83, 150):
            try:
                table, row = table_model(play, crew)
            except TooMany as why:
                self.due(why, Known, play, crew)
                continue
            if table is not None and len(table) > 300:
                continue
            known = Known(play, crew)
            self.assertEqual((known.table, known.row), (table, row))
            self.assertEqual(tuple(known), table or ())
            self.assertEqual(len(known), len(table or ()))
            self.assertIs(bool(known), row is None)
            told[row is None] += 1
            if row is None:
                self.assertTrue(only_tuples(table))
                for evening in list(evenings(play, 3)):
                    self.assertTrue(any(map(is_free_standing, lot_after(play, crew, evening))))
            else:
                self.assertTrue(play.plan.is_evening(row))
                self.assertFalse(any(map(is_free_standing, lot_after(play, crew, row))))
                for evening in list(evenings(play, min(len(row), 4))):
                    if (len(evening), evening) < (len(row), row):
                        self.assertTrue(any(map(is_free_standing, lot_after(play, crew, evening))))
        self.assertGreater(min(told), 20)

    def test_three_hundred_pairs(self):
        known = Known(calm_play(18, 3), ONE)
        self.assertEqual((len(known.table), known.row), (300, None))
        self.assertIsNone(judge_lots(calm_play(18, 3), ONE, known.table))
        self.due(TooMany("lot"), Known, calm_play(18, 4), ONE)

    def test_a_way_out_at_the_last_pair(self):
        play = calm_play(18, 3, ("tq",))
        self.assertEqual(len(Sound(play).table), 300)
        known = Known(play, ONE)
        self.assertEqual(known.row, (4,) + tuple(range(5, 5 + 21)))
        self.assertEqual(lot_after(play, ONE, known.row), ())
        # Ahead of it there is one pair more.
        self.due(TooMany("lot"), Known, calm_play(18, 4, ("tq",)), ONE)

    def test_too_many_standings_in_their_order(self):
        turns = tuple(("turn", name, "any") for name in KQF[0])
        scenes = {"t": (("repeat", 3, turns),), "u": (("turn", "king", "left"),), "e": ()}
        crew = Crew(3, beats=3, winds=3)
        self.due(TooMany("standing"), Known, play_of(scenes, ["a t a"], opening=KQF), crew)
        # With hands that stay empty, the least evening that cannot be played is met ahead.
        ahead = play_of({**scenes, "r": (("rest",),)}, ["a u a", "a t a"], opening=KQF)
        self.assertEqual(Known(ahead, Crew(3, beats=0)).row, (0,))

    def test_errors_ahead_of_all_others(self):
        play = play_of({"bad": LEFT}, ["a bad a"])
        for call in (Known, lambda *told: judge_lots(*told, None)):
            self.due(Spoilt((0,)), call, play, Crew(1))


class JudgeTest(Case):
    def check(self, play, crew, table):
        wanted = judge_lots_model(play, crew, table)
        self.assertEqual(judge_lots(play, crew, table), wanted)
        self.assertEqual(judge_lots(play, crew, listed(table)), wanted)
        return wanted

    def test_tables_that_are_told(self):
        right = wrong = 0
        for rng, play, crew in sound_plays(84, 80):
            try:
                table = Known(play, crew).table
            except TooMany:
                continue
            if table is None or len(table) > 30:
                continue
            self.assertIsNone(self.check(play, crew, table))
            self.assertIsNone(self.check(play, crew, table[::-1] + table[:1]))
            right += 1
            for _ in range(3):
                number = rng.randrange(len(table))
                node, lot = table[number]
                other = rng.choice((
                    (rng.choice(play.plan.nodes), lot), (node, lot[1:]), (node, lot[:-1]), (node, lot + lot[:1]),
                    (node, lot[::-1]), (node, lot + (None,)), None, (node,), (node, lot, lot)))
                wrong += self.check(play, crew, table[:number] + (other,) + table[number + 1:]) is not None
                wrong += self.check(play, crew, table[:number] + table[number + 1:]) is not None
        self.assertGreater(right, 40)
        self.assertGreater(wrong, 60)

    def test_whoever_wrote_it(self):
        """A lot may be a part of what can be had, if it leads on."""
        play = play_of({"t": (("turn", "king", "any"),), "e": ()}, ["a t b", "b t a"], ends=("a",), opening=KING)
        begun = standing_of(KING)
        held = tuple((("king",), (face,), (0,), ((1,),), (("king",),)) for face in (0, 1))
        table = (("a", (begun,)), ("b", (held[1],)), ("a", (held[0],)))
        self.assertIsNone(judge_lots(play, Crew(1), table))
        self.assertNotEqual(Known(play, Crew(1)).table, table)
        self.assertEqual(judge_lots(play, Crew(1), table[:2]), 1)
        self.assertEqual(judge_lots(play, Crew(1), table[::2]), 0)
        self.assertEqual(judge_lots(play, Crew(1), table[1:]), -1)

    def test_the_beginning(self):
        play = play_of({"e": ()}, ["a e a"], opening=KING)
        begun = standing_of(KING)
        held = begun[:4] + ((("king",),),)
        self.assertIsNone(judge_lots(play, Crew(1), (("a", (begun,)),)))
        for table in ((), [], (("a", (begun, held)),), (("a", begun),), (("b", (begun,)),), (None,),
                      ((["a"], (begun,)),), (("a", ()),)):
            self.assertEqual(judge_lots(play, Crew(1), table), -1)

    def test_rows_without_the_form(self):
        play = play_of({"e": ()}, ["a e a"], opening=KING)
        begun = standing_of(KING)
        fine = ("a", (begun,))
        for thing in NO_ROWS + (("a",), ("a", (), ()), ("c", (begun,)), (True, (begun,)), ("a", ()), ("a", (begun, begun)),
                                ("a", begun), ("a", (None,)), ("a", (begun[:4],)), ("a", "b"), ("a", None),
                                ("a", (begun[:2] + ((True,),) + begun[3:],))):
            self.assertEqual(judge_lots(play, Crew(1), (fine, fine, thing, thing)), 2)
            self.assertEqual(judge_lots(play, Crew(1), (thing, fine)), 0)

    def test_rows_that_are_not_right(self):
        play = play_of({"e": (), "t": LEFT}, ["a e b", "b t c"], ends=("a", "c"), opening=KING)
        begun = standing_of(KING)
        hold = (("king",),)
        end = (("king",), (1,), (0,), ((1,),), hold)
        wound = (("king",), (1,), (1,), ((1,),), hold)
        other = (("king",), (0,), (0,), ((1,),), hold)
        table = (("a", (begun,)), ("b", (begun,)), ("c", (end, wound)))
        self.assertIsNone(judge_lots(play, Crew(1), table))
        self.assertIsNone(judge_lots(play, Crew(1), table[:2] + (("c", (end,)),)))
        # Not free; another picture; two pictures; a picture to which no row leads there; nothing behind.
        self.assertEqual(judge_lots(play, Crew(1), table[:2] + (("c", (wound,)),)), 2)
        self.assertEqual(judge_lots(play, Crew(1), table + (("c", (other,)),)), 3)
        self.assertEqual(judge_lots(play, Crew(1), table + (("c", (other, end)),)), 3)
        self.assertEqual(judge_lots(play, Crew(1), table + (("b", (end,)),)), 3)
        self.assertEqual(judge_lots(play, Crew(1), table[:2]), 1)
        # A pair with a standing that is no outcome is of no use.
        self.assertEqual(judge_lots(play, Crew(1), table[:2] + (("c", (end[:4] + ((),), end)),)), 1)
        self.assertIsNone(judge_lots(play, Crew(1), table + (("c", (end[:4] + ((),), end)),)))

    def test_a_lot_with_two_pictures(self):
        """Each of its standings has a picture that rows lead to, but not the same one."""
        play = play_of({"t": LEFT, "e": ()}, ["a t b", "a e b"], ends=("b",), opening=KING)
        front, back = standing_of(KING), standing_of((("king",), (1,)))
        table = (("a", (front,)), ("b", (front,)), ("b", (back[:4] + ((("king",),),),)))
        self.assertIsNone(judge_lots(play, Crew(1), table))
        self.assertEqual(judge_lots(play, Crew(1), table + (("b", (front, back)),)), 3)

    def test_too_many_outcomes(self):
        turns = tuple(("turn", name, "any") for name in KQF[0])
        play = play_of({"t": (("repeat", 3, turns),), "e": ()}, ["a e a", "a t b", "b e a"], opening=KQF)
        crew = Crew(3, beats=3, winds=3)
        begun = standing_of(KQF)
        fine = ("a", (begun,))
        self.due(TooMany("standing"), judge_lots, play, crew, (fine,))
        # What is wrong ahead of that is told.
        self.assertEqual(judge_lots(play, crew, (None, fine)), 0)
        self.assertEqual(judge_lots(play, crew, (("a", (begun[:2] + ((1, 0, 0),) + begun[3:],)), fine)), 0)
        self.assertEqual(judge_lots(play, crew, (("b", (begun,)),)), -1)
        # The calls are asked in order, and the first one has no pair that it leads to.
        back = play_of({"t": (("repeat", 3, turns),), "e": ()}, ["a e b", "a t a"], opening=KQF, ends=("a", "b"))
        self.assertEqual(judge_lots(back, crew, (fine,)), 0)
        self.due(TooMany("standing"), judge_lots, back, crew, (fine, ("b", (begun,))))

    def test_a_lot_with_too_many_standings(self):
        play = play_of({"e": ()}, ["a e b"], opening=KQF, ends=("a", "b"))
        crew = Crew(1, winds=3)
        begun = standing_of(KQF)
        lot = tuple(sorted(begun[:2] + ((one, two, three),) + begun[3:] for one in range(-3, 4) for two in range(-3, 4)
                           for three in range(-3, 4)))
        at = lot.index(begun)
        table = (("a", (begun,)), ("b", lot))
        self.assertIsNone(judge_lots(play, crew, (("a", (begun,)), ("b", (begun,)), ("b", lot))))
        self.assertEqual(judge_lots(play, crew, table), 0)
        self.due(TooMany("standing"), judge_lots, play, crew, table[:1] + (("b", (begun,)), ("a", lot)))
        self.assertIsNone(judge_lots(play, crew, table[:1] + (("b", lot[at - 150:at + 150]), ("b", (begun,)))))
