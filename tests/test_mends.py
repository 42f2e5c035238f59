"""Point 37: mends of a book, and the fewest of them."""

import itertools

from freestrung.called import Called
from freestrung.crews import Crew
from freestrung.errors import BadMends, BadMost, Spoilt, TooLong, TooMany
from freestrung.flows import flow
from freestrung.mends import fewest_mends, mended, possible_mends
from freestrung.pictures import pictures
from freestrung.scenes import Book
from tests.helpers import KQF, NO_ROWS, Case, listed, only_tuples, play_of, troupe
from tests.samples import sound_plays
from tests.test_called import KING, LEFT, TURNS

TWO = (("king", "queen"), (0, 0))
REST = ("rest",)
DEEP = (("if", ("on", "king"), (("turn", "king", "left"), ("repeat", 2, (("exit", "king", "any"),))), (REST,)),
        ("until", ("off", "queen"), (("exit", "queen", "before"),)), ("call", "sb"))


def deep():
    return Book(troupe(), (("sa", DEEP), ("sb", (("pass", "fool", "left", "behind"), ("move", "fool", "bell"))), ("sc", ())))


class PossibleTest(Case):
    def test_in_order(self):
        self.assertEqual(possible_mends(deep()), (
            ("rest", "sa", 0), ("open", "sa", 1), ("rest", "sa", 1), ("rest", "sa", 2), ("rest", "sa", 3), ("rest", "sa", 4),
            ("rest", "sa", 5), ("open", "sa", 6), ("rest", "sa", 6), ("rest", "sa", 7),
            ("open", "sb", 0), ("rest", "sb", 0), ("rest", "sb", 1)))
        self.assertTrue(only_tuples(possible_mends(deep())))

    def test_each_kind(self):
        kinds = {("pass", "king", "left", "before"): 1, ("pass", "king", "left", "any"): 0, ("turn", "king", "left"): 1,
                 ("turn", "king", "any"): 0, ("exit", "king", "behind"): 1, ("exit", "king", "any"): 0,
                 ("enter", "king", "left"): 0, ("enter", "king", "right"): 0, ("move", "king", "hand"): 0, REST: 0,
                 ("call", "b"): 0, ("repeat", 3, ()): 0, ("until", ("left", "king", "queen"), ()): 0,
                 ("if", ("front", "king"), (), ()): 0}
        for statement, opened in kinds.items():
            book = Book(troupe(), (("a", (statement,)), ("b", ())))
            self.assertEqual(possible_mends(book), (("open", "a", 0),) * opened + (("rest", "a", 0),))

    def test_statements_are_numbered_as_they_are_written(self):
        for _, play, _ in sound_plays(150, 60):
            told = []
            for name in play.book:
                for number, statement in enumerate(play.book.statements(name)):
                    if statement[0] in ("pass", "turn", "exit") and statement[-1] != "any":
                        told.append(("open", name, number))
                    told.append(("rest", name, number))
            self.assertEqual(possible_mends(play.book), tuple(told))

    def test_an_empty_book(self):
        self.assertEqual(possible_mends(Book(troupe(), (("a", ()),))), ())


class MendedTest(Case):
    def test_each_alone(self):
        book = deep()
        bodies = dict(book.scenes)
        wanted = {
            ("rest", "sa", 0): ("sa", (REST,) + DEEP),
            ("open", "sa", 1): ("sa", (DEEP[0][:2] + ((("turn", "king", "any"), DEEP[0][2][1]), (REST,)),) + DEEP[1:]),
            ("rest", "sa", 2): ("sa", (DEEP[0][:2] + ((DEEP[0][2][0], REST, DEEP[0][2][1]), (REST,)),) + DEEP[1:]),
            ("rest", "sa", 3): ("sa", (DEEP[0][:2] + ((DEEP[0][2][0], ("repeat", 2, (REST, ("exit", "king", "any")))), (REST,)),)
                                + DEEP[1:]),
            ("rest", "sa", 4): ("sa", (DEEP[0][:3] + ((REST, REST),),) + DEEP[1:]),
            ("open", "sa", 6): ("sa", (DEEP[0], ("until", ("off", "queen"), (("exit", "queen", "any"),)), DEEP[2])),
            ("rest", "sa", 7): ("sa", DEEP[:2] + (REST, DEEP[2])),
            ("open", "sb", 0): ("sb", (("pass", "fool", "left", "any"), ("move", "fool", "bell"))),
            ("rest", "sb", 1): ("sb", (bodies["sb"][0], REST, bodies["sb"][1])),
        }
        for mend, (name, body) in wanted.items():
            after = mended(book, (mend,))
            self.assertEqual(after.scenes, tuple((other, body if other == name else bodies[other]) for other in bodies))
            self.assertEqual(after.cast, book.cast)
            self.assertEqual(mended(book, [list(mend)]), after)
        self.assertEqual(book, deep())

    def test_none_and_all(self):
        self.assertEqual(mended(deep(), ()), deep())
        self.assertEqual(mended(deep(), []), deep())
        after = mended(deep(), possible_mends(deep()))
        self.assertEqual(len(list(after.statements("sa"))), 16)
        self.assertEqual(after["sb"], (REST, ("pass", "fool", "left", "any"), REST, ("move", "fool", "bell")))

    def test_done_at_once(self):
        """Numbers are those of the old book, in whatever order the mends are told."""
        book = Book(troupe(), (("a", (("turn", "king", "left"), ("turn", "queen", "right"))),))
        mends = (("rest", "a", 0), ("open", "a", 1), ("open", "a", 0), ("rest", "a", 1))
        body = (REST, ("turn", "king", "any"), REST, ("turn", "queen", "any"))
        for told in itertools.permutations(mends):
            self.assertEqual(mended(book, told)["a"], body)

    def test_flows_have_the_same_pictures(self):
        """A mend shows no other pictures, if the flow ends all the same."""
        for rng, play, _ in sound_plays(151, 40, 2):
            possible = possible_mends(play.book)
            if not possible:
                continue
            after = mended(play.book, rng.sample(possible, min(2, len(possible))))
            for name in play.book:
                for picture in pictures(play.book.cast):
                    one, other = flow(play.book, name, picture), flow(after, name, picture)
                    if one and other:
                        self.assertEqual(one.picture, other.picture)

    def test_a_hundred_statements(self):
        for many, error in ((98, None), (99, None), (100, TooLong(101))):
            book = Book(troupe(), (("a", (REST,) * (many - 1)), ("b", (("turn", "king", "left"),))))
            self.assertEqual(len(mended(book, (("open", "b", 0),))), 2)
            if error is None:
                self.assertEqual(len(list(mended(book, (("rest", "b", 0),)).statements("b"))), 2)
            else:
                self.due(error, mended, book, (("rest", "b", 0),))
                self.due(TooLong(102), mended, book, (("rest", "b", 0), ("open", "b", 0), ("rest", "a", 0)))

    def test_errors(self):
        book = deep()
        fine = ("open", "sa", 1)
        for thing in NO_ROWS:
            self.due(BadMends(-1), mended, book, thing)
        for thing in NO_ROWS + (("open", "sa", 0), ("open", "sa", True), ("rest", "sa", 8), ("rest", "sd", 0), ("rest", "sa"),
                                ("rest", "sa", 0, 0), ("rest", "sa", "0"), ("rest", "sa", None), ("close", "sa", 1), (None, "sa", 1),
                                ("rest", None, 0), ("rest", ("sa",), 0), ("rest", "sa", -1), ("rest", "sc", 0), fine, list(fine),
                                ("rest", "sa", False)):
            self.due(BadMends(1), mended, book, (fine, thing, None))
        self.due(BadMends(2), mended, book, [["rest", "sa", 1], fine, ["rest", "sa", 1]])


class FewestTest(Case):
    def play(self):
        """The king is turned twice with one hand that must be at his bar alone in time."""
        scenes = {"s": (("turn", "king", "left"), ("turn", "queen", "left"), ("turn", "king", "right"))}
        return play_of(scenes, ["a s b"], ends=("b",), opening=TWO)

    def test_none_is_needed(self):
        for most in range(3):
            self.assertEqual(fewest_mends(self.play(), Crew(2), most), ())

    def test_rests_are_needed(self):
        crew = Crew(1, reach=0, winds=0)
        self.assertIsNone(fewest_mends(self.play(), crew, 0))
        self.assertIsNone(fewest_mends(self.play(), crew, 1))
        self.assertEqual(fewest_mends(self.play(), crew, 2), (("rest", "s", 1), ("rest", "s", 2)))

    def test_a_way_that_is_opened(self):
        scenes = {"s": (("pass", "king", "right", "before"),), "e": ()}
        play = play_of(scenes, ["a s b"], ends=("b",), opening=TWO)
        crew = Crew(1, reach=0)
        self.assertEqual(fewest_mends(play, crew, 0), None)
        self.assertEqual(fewest_mends(play, crew, 1), (("open", "s", 0),))
        self.assertEqual(fewest_mends(play, crew, 2), (("open", "s", 0),))
        self.assertTrue(only_tuples(fewest_mends(play, crew, 2)))

    def test_two_mends_of_one_statement(self):
        """One hand comes to the king's bar a deed too late, and passes it behind the queen's only."""
        scenes = {"s": (("turn", "queen", "left"), ("pass", "king", "right", "before"))}
        play = play_of(scenes, ["a s b"], ends=("b",), opening=TWO)
        crew = Crew(1, reach=0, winds=0)
        self.assertIsNone(fewest_mends(play, crew, 1))
        self.assertEqual(fewest_mends(play, crew, 2), (("open", "s", 1), ("rest", "s", 1)))

    def test_against_all_sets(self):
        seen = {}
        for _, play, crew in sound_plays(152, 700, 2, "ab"):
            possible = possible_mends(play.book)
            crew = crew.changed(reach=0, beats=1, bears=0)
            if not 0 < len(possible) <= 9:
                continue
            sets = [mends for many in range(3) for mends in itertools.combinations(possible, many)]
            wanted = None
            try:
                for mends in sets:
                    if Called(play.changed(book=mended(play.book, mends)), crew):
                        wanted = mends
                        break
            except (TooMany, Spoilt) as why:
                self.due(why, fewest_mends, play, crew, 2)
                continue
            self.assertEqual(fewest_mends(play, crew, 2), wanted)
            for most in (0, 1):
                self.assertEqual(fewest_mends(play, crew, most), wanted if wanted is not None and len(wanted) <= most else None)
            many = None if wanted is None else len(wanted)
            seen[many] = seen.get(many, 0) + 1
        self.assertLessEqual({None, 0, 1}, set(seen), seen)

    def test_a_way_that_is_open_lets_no_less(self):
        for _, play, crew in sound_plays(153, 60, 2):
            opened = [mend for mend in possible_mends(play.book) if mend[0] == "open"]
            try:
                if opened and Called(play, crew):
                    for mend in opened[:3]:
                        self.assertTrue(Called(play.changed(book=mended(play.book, (mend,))), crew))
            except TooMany:
                pass

    def test_sixteen_mends(self):
        for many in (8, 9):
            scenes = {"s": (("turn", "king", "left"),) * many if many == 8 else (("turn", "king", "left"),) * 8 + (REST,)}
            play = play_of(scenes, ["a s b"], ends=("b",), opening=KING)
            self.assertEqual(len(possible_mends(play.book)), 16 if many == 8 else 17)
            for most in range(3):
                if many == 8:
                    self.assertEqual(fewest_mends(play, Crew(1), most), ())
                else:
                    self.due(TooMany("mend"), fewest_mends, play, Crew(1), most)
        idle = play_of({"s": (REST,) * 16}, ["a s b"], ends=("b",), opening=KING)
        self.assertEqual(fewest_mends(idle, Crew(1), 2), ())

    def test_the_first_error_that_is_met(self):
        """A rest more can make a flow too long; sets that come ahead of it are asked all the same."""
        short = (("repeat", 4, (("repeat", 4, (REST, REST, REST)),)), ("repeat", 4, (REST, REST)), REST, REST, REST)
        play = play_of({"s": short, "l": LEFT}, ["a s b", "b l a"], opening=KING)
        crew = Crew(1, beats=0)
        self.assertEqual(len(play.flow(0, KING)), 59)
        self.assertIsNone(fewest_mends(play, crew, 0))
        # The first rest is done once more, the second one four times.
        self.due(Spoilt((0,)), fewest_mends, play, crew, 1)
        self.assertEqual(fewest_mends(play, Crew(1), 1), ())
        self.due(TooMany("standing"), fewest_mends, play_of({"t": TURNS}, ["a t a"], opening=KQF), Crew(3, beats=3, winds=3), 2)

    def test_errors_in_order(self):
        many = play_of({"s": (REST,) * 17}, ["a s b"], ends=("b",), opening=KING)
        for thing in (None, -1, 3, True, False, "1", (1,), 10 ** 30):
            self.due_as_passed(BadMost, "most", thing, fewest_mends, many, Crew(1), thing)
        self.due(TooMany("mend"), fewest_mends, many, Crew(1), 0)
        self.due(Spoilt((0,)), fewest_mends, play_of({"bad": LEFT}, ["a bad a"]), Crew(1), None)

    def test_all_else_is_the_same(self):
        play = self.play()
        crew = Crew(1, reach=0, winds=0)
        mends = fewest_mends(play, crew, 2)
        after = play.changed(book=mended(play.book, listed(mends)))
        self.assertEqual((after.plan, after.opening), (play.plan, play.opening))
        self.assertTrue(Called(after, crew))
