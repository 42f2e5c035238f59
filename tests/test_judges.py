"""Point 34: how tables of a called evening are judged, whoever wrote them."""

from freestrung.called import Called
from freestrung.crews import Crew
from freestrung.errors import Spoilt, TooMany
from freestrung.judges import judge_caller, judge_crew
from freestrung.standings import standing_of
from tests.helpers import KQF, NO_ROWS, Case, listed, play_of
from tests.models import judge_caller_model, judge_crew_model
from tests.test_called import HOLD, KING, LEFT, TURNED, TURNS, king, small_games

WRONG_POSITIONS = NO_ROWS + (
    ("c", king()), (["a"], king()), ("a", None), ("a", king()[:4]), ("a", king(True)), ("a", king(0, 2)),
    ("a", king(0, 0, (("queen",),))), ("a",), ("a", king(0, 0, ()), None),
)


def random_spoilt(rng, play, row, rows):
    """A row that is spoilt in some way; it may be right all the same."""
    node, standing = row[:2]
    position = rng.choice((
        (rng.choice(play.plan.nodes), standing), (node, standing[:4] + ((),)), (node, rng.choice(rows)[1]),
        (node, standing[:2] + (tuple(wind + 1 for wind in standing[2]),) + standing[3:]), (node, None), (None, standing)))
    return position + row[2:] if rng.random() < 0.5 else rng.choice((None, row[:-1], row + (0,)))


class JudgeCrewTest(Case):
    def play(self):
        return play_of(TURNED, ["a l b", "b r a", "b e b"], opening=KING)

    def table(self):
        along = [((HOLD, "along", way),) for way in ("left", "right")]
        return (("a", king(hold=()), (along[0],)), ("b", king(1), (along[1], ())), ("a", king(), (along[0],)))

    def check(self, play, crew, table):
        wanted = judge_crew_model(play, crew, table)
        self.assertEqual(judge_crew(play, crew, table), wanted)
        self.assertEqual(judge_crew(play, crew, listed(table)), wanted)
        return wanted

    def test_tables_that_are_told(self):
        right = wrong = 0
        for rng, play, crew, called in small_games(92, 120):
            table = called.table
            if table is None or len(table) > 40:
                continue
            self.assertIsNone(self.check(play, crew, table))
            self.assertIsNone(self.check(play, crew, table[::-1] + table[:2]))
            right += 1
            for _ in range(3):
                number = rng.randrange(len(table))
                other = random_spoilt(rng, play, table[number], table)
                for rows in (table[:number] + (other,) + table[number + 1:], table[:number] + table[number + 1:],
                             table + (other,)):
                    wrong += self.check(play, crew, rows) is not None
        self.assertGreater(right, 50)
        self.assertGreater(wrong, 150)

    def test_playings_that_are_spoilt(self):
        wrong = 0
        for rng, play, crew, called in small_games(93, 120):
            for number, (node, standing, playings) in enumerate(called.table or ()):
                for place, playing in enumerate(playings):
                    other = rng.choice((None, (), playing + playing, playing[::-1], playing[1:], tuple(
                        (way[0], way[1], "left") for way in playing), tuple(((),) + way[1:] for way in playing)))
                    row = (node, standing, playings[:place] + (other,) + playings[place + 1:])
                    rows = called.table[:number] + (row,) + called.table[number + 1:]
                    if len(rows) <= 12:
                        wrong += self.check(play, crew, rows) is not None
        self.assertGreater(wrong, 50)

    def test_the_beginning(self):
        table = self.table()
        self.assertIsNone(judge_crew(self.play(), Crew(1), table))
        self.assertEqual(judge_crew(self.play(), Crew(1), table[1:]), -1)
        for thing in ((), [], (None,), (("a", king(hold=())),), (("b", king(hold=()), ((), ())),), (table[0] + (0,),)):
            self.assertEqual(judge_crew(self.play(), Crew(1), thing), -1)
        # Its row need not be the first one, nor be right.
        self.assertIsNone(judge_crew(self.play(), Crew(1), table[::-1]))
        self.assertEqual(judge_crew(self.play(), Crew(1), table[1:] + (("a", king(hold=()), (None,)),)), 2)

    def test_rows_without_the_form(self):
        table = self.table()
        for thing in WRONG_POSITIONS:
            row = tuple(thing) + ((((HOLD, "along", "left"),),),) if isinstance(thing, tuple) else thing
            self.assertEqual(judge_crew(self.play(), Crew(1), table + (row, row)), 3)
            self.assertEqual(judge_crew(self.play(), Crew(1), table + (thing,)), 3)
        for playings in NO_ROWS + ((), (None, None, None), "ab", (((HOLD, "along", "left"),),) * 2):
            self.assertEqual(judge_crew(self.play(), Crew(1), table[:2] + (("a", king(), playings),) + table[2:]), 2)
        # What has not the form tells no position for the others.
        self.assertEqual(judge_crew(self.play(), Crew(1), table[:2] + (("a", king(), ()),)), 1)

    def test_an_end_that_is_not_free(self):
        table = self.table()
        wound = ("a", king(0, 1), (((HOLD, "along", "left"),),))
        self.assertEqual(judge_crew(self.play(), Crew(1), table + (wound,)), 3)
        still = ("b", king(1, 1), (((HOLD, "still", "right"),), ()))
        self.assertIsNone(judge_crew(self.play(), Crew(1), table + (still,)))

    def test_a_picture_that_is_not_led_to(self):
        table = self.table()
        for row in (("a", king(1), (None,)), ("b", king(0), (None, None)), ("a", standing_of((("queen",), (0,))), (None,)),
                    ("a", standing_of(((), ())), (None,))):
            self.assertEqual(judge_crew(self.play(), Crew(1), table + (row,)), 3)
        # Nothing else is wrong with it.
        short = play_of(TURNED, ["a e b"], ends=("b",), opening=KING)
        begun = king(hold=())
        table = (("a", begun, ((),)), ("b", begun, ()))
        self.assertIsNone(judge_crew(short, Crew(1), table))
        for standing in (king(1), standing_of((("queen",), (0,))), standing_of(((), ()))):
            self.assertEqual(judge_crew(short, Crew(1), table + (("b", standing, ()),)), 2)

    def test_a_playing_that_leads_out(self):
        table = self.table()
        self.assertEqual(judge_crew(self.play(), Crew(1), table[:2]), 1)
        self.assertEqual(judge_crew(self.play(), Crew(1), table[::2]), 0)

    def test_another_crew(self):
        self.assertEqual(judge_crew(self.play(), Crew(1, beats=0), self.table()), 0)
        self.assertIsNone(judge_crew(self.play(), Crew(4, reach=3, beats=3, bears=60, winds=3), self.table()))

    def test_no_calls(self):
        play = play_of({"e": ()}, [], opening=KING)
        self.assertIsNone(judge_crew(play, Crew(1), (("a", king(hold=()), ()),)))
        self.assertEqual(judge_crew(play, Crew(1), (("a", king(hold=()), ((),)),)), -1)


class JudgeCallerTest(Case):
    def play(self):
        return play_of(TURNED, ["a e b", "b l c", "b e b"], ends=("c",), opening=KING)

    def table(self):
        return (("a", king(hold=()), 0, 2), ("b", king(hold=()), 1, 1))

    def check(self, play, crew, table):
        wanted = judge_caller_model(play, crew, table)
        self.assertEqual(judge_caller(play, crew, table), wanted)
        self.assertEqual(judge_caller(play, crew, listed(table)), wanted)
        return wanted

    def test_tables_that_are_told(self):
        right = wrong = 0
        for rng, play, crew, called in small_games(94, 250):
            table = called.caller
            if table is None or len(table) > 30:
                continue
            self.assertIsNone(self.check(play, crew, table))
            self.assertIsNone(self.check(play, crew, table[::-1] + table[:2]))
            right += 1
            for _ in range(4):
                number = rng.randrange(len(table))
                node, standing, call, rank = table[number]
                other = rng.choice((
                    random_spoilt(rng, play, table[number], table), (node, standing, call, rank + rng.randint(-2, 2)),
                    (node, standing, rng.randint(-1, len(play.plan)), rank), (node, standing, -1, rank),
                    (node, standing, call, None)))
                for rows in (table[:number] + (other,) + table[number + 1:], table[:number] + table[number + 1:],
                             (other,) + table):
                    wrong += self.check(play, crew, rows) is not None
        self.assertGreater(right, 20)
        self.assertGreater(wrong, 80)

    def test_ranks(self):
        crew, (first, second) = Crew(1, beats=0), self.table()
        self.assertIsNone(judge_caller(self.play(), crew, (first, second)))
        # A rank need only be greater than those behind it.
        self.assertIsNone(judge_caller(self.play(), crew, (first[:3] + (10 ** 20,), second[:3] + (7,))))
        self.assertEqual(judge_caller(self.play(), crew, (first, second[:3] + (2,))), 0)
        self.assertIsNone(judge_caller(self.play(), crew, (first, second[:3] + (2,), second)))
        self.assertEqual(judge_caller(self.play(), crew, (first, second[:3] + (0,))), 1)
        self.assertEqual(judge_caller(self.play(), crew, (first, second[:3] + (-1,))), 0)
        self.assertEqual(judge_caller(self.play(), crew, (first, second, second[:3] + (0,))), 2)

    def test_the_beginning(self):
        crew, (first, second) = Crew(1, beats=0), self.table()
        for table in ((), [], (second,), (None,), (first[:3],), (first[:3] + (True,),), (first[:2] + ("0", 2),)):
            self.assertEqual(judge_caller(self.play(), crew, table), -1)
        self.assertIsNone(judge_caller(self.play(), crew, (second, first)))

    def test_rows_without_the_form(self):
        crew, table = Crew(1, beats=0), self.table()
        for thing in WRONG_POSITIONS:
            row = tuple(thing) + (1, 1) if isinstance(thing, tuple) else thing
            self.assertEqual(judge_caller(self.play(), crew, table + (row, row)), 2)
            self.assertEqual(judge_caller(self.play(), crew, table + (thing,)), 2)
        for call, rank in ((None, 1), ("1", 1), (True, 1), (0, 1), (3, 1), (-2, 1), (1, None), (1, True), (1, "1"), (1, (1,)),
                           ((1,), 1)):
            self.assertEqual(judge_caller(self.play(), crew, table + (("b", king(hold=()), call, rank),)), 2)

    def test_an_end_that_is_bound(self):
        """One player who can hold one bar only passes it behind the other one."""
        play = play_of({"p": (("pass", "king", "right", "before"),), "e": ()}, ["a p b", "b e b", "b e c"],
                       ends=("b", "c"), opening=(("king", "queen"), (0, 0)))
        crew = Crew(1, reach=0)
        crossed = (("queen", "king"), (0, 0), (0, 0), ((1, 2, 1, -2, -1), (1, 2, -1)), HOLD)
        start = ("a", standing_of(play.opening), 0, 1)
        self.assertEqual(Called(play, crew).caller[0], start)
        self.assertIsNone(self.check(play, crew, (start, ("b", crossed, -1, 0))))
        free = crossed[:3] + (((1,), (2,)), HOLD)
        for row in (("b", crossed, -1, 1), ("b", crossed, -1, -1), ("b", free, -1, 0), ("a", crossed, -1, 0),
                    ("b", crossed, 1, 0), ("c", start[1], -1, 0)):
            self.assertEqual(self.check(play, crew, (start, ("b", crossed, -1, 0), row)), 2)
        self.assertEqual(self.check(play, crew, (start, ("b", crossed, 2, 1))), 0)
        self.assertIsNone(self.check(play, crew, (start, ("b", crossed, -1, 0), ("b", crossed, 2, 1), ("c", crossed, -1, 0))))

    def test_answers_that_are_too_many(self):
        play = play_of({"t": TURNS, "e": ()}, ["a e a", "a t a"], opening=KQF)
        crew = Crew(3, beats=3, winds=3)
        begun = standing_of(KQF)
        self.due(TooMany("standing"), judge_caller, play, crew, (("a", begun, 1, 1),))
        self.assertEqual(judge_caller(play, crew, (("a", begun, 0, 1), ("a", begun, 1, 1))), 0)
        self.assertEqual(judge_caller(play, crew, (("a", begun, 1, 0),)), 0)
        self.assertEqual(judge_caller(play, crew, (None, ("a", begun, 1, 1))), 0)
        self.assertEqual(judge_caller(play, crew, ()), -1)
        other = begun[:1] + ((1, 0, 0),) + begun[2:]
        self.assertEqual(judge_caller(play, crew, (("a", other, 1, 1), ("a", begun, 1, 1))), 0)


class BothTest(Case):
    def test_a_table_of_the_other_is_not_right(self):
        for _, play, crew, called in small_games(95, 60):
            table = [position + (-1, 0) for position in called.found]
            if called:
                self.assertIsNotNone(judge_caller(play, crew, table))
                guess = [position + (call, 1) for position in called.found
                         for call in play.plan.calls_at(position[0])]
                self.assertIsNotNone(judge_caller(play, crew, guess))

    def test_errors_ahead(self):
        for judge in (judge_crew, judge_caller):
            self.due(Spoilt((0,)), judge, play_of({"bad": LEFT}, ["a bad a"]), Crew(1), None)
