"""Point 11: events, shows, and scenes that are alike or the same."""

import itertools

from freestrung.casts import Cast
from freestrung.errors import BadDeeds, BadPicture, BadRow, Spoilt, TooMany, Unknown, Unlike
from freestrung.flows import flow
from freestrung.pictures import pictures
from freestrung.scenealike import SceneAlike, endings
from freestrung.scenes import Book
from freestrung.seen import events, shows_in, shows_of
from tests.helpers import KQF, NO_ROWS, WIDE_SCENES, Case, book_of, listed, only_tuples, play_of, troupe, wide_calls

PAIR = (("king", "queen"), (0, 1))
TURN = ("turn", "king", "any")
PASS = ("pass", "king", "queen", "right", "any")
EXIT = ("exit", "king", "any")


class EventsTest(Case):
    def test_one_deed(self):
        for deed, event in (
            (PASS, ("pass", "king", "queen", "any")),
            (("pass", "queen", "king", "left", "behind"), ("pass", "queen", "king", "behind")),
            (TURN, TURN), (("turn", "queen", "left"), ("turn", "queen", "left")),
            (EXIT, EXIT), (("exit", "queen", "before"), ("exit", "queen", "before")),
            (("enter", "fool", "left"), ("enter", "fool", "left")),
            (("move", "king", "hand"), ("move", "king", "hand")), (("move", "queen", "fan"), None), (("rest",), None),
        ):
            told = self.same_with_lists(events, PAIR, (deed,))
            self.assertEqual(told, () if event is None else (event,))

    def test_a_move_shows_as_the_puppet_faces_then(self):
        deeds = (("move", "king", "hand"), TURN, ("move", "king", "crown"), ("pass", "queen", "king", "left", "any"),
                 ("move", "king", "hand"), ("turn", "king", "left"), ("move", "king", "nose"))
        self.assertEqual(self.same_with_lists(events, PAIR, deeds), (
            ("move", "king", "hand"), TURN, ("pass", "queen", "king", "any"), ("turn", "king", "left"),
            ("move", "king", "nose")))
        self.assertEqual(events((("king",), (1,)), (("exit", "king", "any"), ("enter", "king", "left"),
                                                    ("move", "king", "hand")))[-1], ("move", "king", "hand"))
        self.assertEqual(events(PAIR, ()), ())

    def test_whoever_has_the_names(self):
        self.assertEqual(events((("nobody",), (0,)), (("move", "nobody", "nothing"),)),
                         (("move", "nobody", "nothing"),))

    def test_no_picture(self):
        for thing in NO_ROWS + ((), (("king",), (True,)), (("king",), (2,)), (("king", "king"), (0, 0))):
            self.due_as_passed(BadPicture, "picture", thing, events, thing, None)

    def test_no_deeds(self):
        for thing in NO_ROWS + ((("rest",),) * 61,):
            self.due(BadDeeds(-1), events, PAIR, thing)
            self.due(BadDeeds(-1), events, listed(PAIR), listed(thing))
        self.assertEqual(events(PAIR, (("rest",),) * 60), ())

    def test_the_first_deed_that_is_none_or_does_not_fit(self):
        wrong = NO_ROWS + ((), ("rest", "king"), ("pass", "king", "queen", "left", "any"), ("turn", "fool", "any"),
                           ("pass", "king", "fool", "right", "any"), ("pass", "king", "queen", "right", "left"),
                           ("turn", "king", "before"), ("turn", "king"), ("turn", "King", "any"),
                           ("enter", "king", "left"), ("exit", "fool", "any"), ("move", "fool", "bell"),
                           ("dance", "king"), ("turn", ("king",), "any"), ("enter", "fool", "any"))
        for thing in wrong:
            self.due(BadDeeds(0), events, PAIR, (thing,))
            self.due(BadDeeds(2), events, PAIR, (TURN, ("rest",), listed(thing), None))
        self.due(BadDeeds(-1), events, PAIR, (None,) * 61)
        self.due(BadDeeds(1), events, PAIR, (PASS, PASS))
        full = (("a", "b", "c", "d"), (0, 0, 0, 0))
        self.due(BadDeeds(0), events, full, (("enter", "e", "left"),))


class ShowsOfTest(Case):
    def test_two_words_for_each_any(self):
        self.assertEqual(tuple(shows_of((TURN,))), ((("turn", "king", "left"),), (("turn", "king", "right"),)))
        self.assertEqual(tuple(shows_of((EXIT,))), ((("exit", "king", "before"),), (("exit", "king", "behind"),)))
        self.assertEqual(tuple(shows_of((("pass", "king", "queen", "any"),))), (
            (("pass", "king", "queen", "before"),), (("pass", "king", "queen", "behind"),)))
        self.assertEqual(tuple(shows_of(())), ((),))
        closed = (("turn", "king", "left"), ("enter", "king", "left"), ("move", "king", "hand"),
                  ("exit", "king", "behind"), ("pass", "king", "queen", "before"))
        self.assertEqual(tuple(shows_of(closed)), (closed,))

    def test_all_shows_ascending(self):
        told = (TURN, ("enter", "fool", "right"), EXIT, TURN, ("pass", "king", "queen", "any"))
        choices = [[event[:-1] + (word,) for word in (
            ("left", "right") if event[0] == "turn" else ("before", "behind"))] if event[-1] == "any" else [event]
            for event in told]
        shows = list(shows_of(told))
        self.assertEqual(shows, sorted(itertools.product(*choices)))
        self.assertEqual(len(shows), 16)
        self.assertEqual(list(shows_of(listed(told))), shows)
        self.assertTrue(all(only_tuples(show) for show in shows_of(listed(told))))

    def test_one_after_the_other(self):
        shows = shows_of((TURN,) * 60)
        self.assertEqual(next(shows), (("turn", "king", "left"),) * 60)
        self.assertEqual(next(shows), (("turn", "king", "left"),) * 59 + (("turn", "king", "right"),))
        self.assertEqual(len(next(shows_of((TURN,) * 200))), 200)
        shows_of(None)


class ShowsInTest(Case):
    def play(self, times):
        body = (("turn", "king", "any"),) * times
        scenes = {"sa": body, "sb": (("turn", "king", "left"), ("move", "king", "hand")), "sc": ()}
        return play_of(scenes, ["a sa a", "a sb a", "a sc b"], ends=("b",), opening=(("king",), (0,)))

    def test_shows_of_a_row(self):
        play = self.play(1)
        left, right = ("turn", "king", "left"), ("turn", "king", "right")
        move = ("move", "king", "hand")
        self.assertEqual(shows_in(play, ()), ((),))
        self.assertEqual(shows_in(play, (2,)), ((),))
        self.assertEqual(shows_in(play, (0, 1)), ((left, left, move), (right, left, move)))
        self.assertEqual(shows_in(play, [1, 0, 1, 2]), ((left, left, left), (left, right, left)))

    def test_so_many_shows(self):
        self.assertEqual(len(shows_in(self.play(5), (0, 0))), 1024)
        self.due(TooMany("show"), shows_in, self.play(5), (0, 0, 0))
        self.due(TooMany("show"), shows_in, self.play(11), (0,))
        shows = shows_in(self.play(10), (0,))
        self.assertEqual(shows, tuple(sorted(set(shows))))

    def test_errors(self):
        play = self.play(1)
        for row, number in (((0, 3), 1), ((2, 0), 1), ((-1,), 0), ((True,), 0), ((0, 0, None), 2), (None, -1),
                            ("ab", -1)):
            self.due(BadRow(number), shows_in, play, row)
        unsound = play_of({"sa": (("exit", "king", "any"),)}, ["a sa a"], opening=(("king",), (0,)))
        self.due(Spoilt((0, 0)), shows_in, unsound, None)
        wide = play_of(WIDE_SCENES, wide_calls(21, 1), first="ta", ends=("pa",), opening=KQF)
        self.due(TooMany("picture"), shows_in, wide, None)


class SceneAlikeTest(Case):
    def alike(self, body, other_body):
        book, other = book_of((), body), book_of(other_body)
        told = SceneAlike(book, "sb", other, "sa")
        self.assertEqual((bool(told), told.picture, told.same), self.model(book, other))
        back = SceneAlike(other, "sa", book, "sb")
        self.assertEqual((bool(back), back.picture, back.same), (bool(told), told.picture, told.same))
        self.assertIs(bool(told), told.picture is None)
        return told

    def model(self, book, other):
        same, least = True, None
        for picture in pictures(book.cast):
            one, two = flow(book, "sb", picture), flow(other, "sa", picture)
            same = same and (one.deeds, one.ended) == (two.deeds, two.ended)
            shown = [(events(picture, told.deeds), told.picture, told.ended) for told in (one, two)]
            if least is None and shown[0] != shown[1]:
                least = picture
        return least is None, least, same

    def test_the_same(self):
        told = self.alike((("repeat", 2, (("turn", "king", "any"),)),), (("turn", "king", "any"),) * 2)
        self.assertEqual((bool(told), told.picture, told.same), (True, None, True))
        self.assertIs(SceneAlike(book_of((("call", "sb"),), (("rest",),)), "sa", book_of((("rest",),)), "sa").same, True)

    def test_alike_but_not_the_same(self):
        told = self.alike((("rest",),), ())
        self.assertEqual((bool(told), told.same), (True, False))
        # From the back, a move of another joint is not seen; from the front neither, as nothing is moved then.
        one = (("if", ("back", "king"), (("move", "king", "hand"),), ()),)
        self.assertIs(bool(self.alike(one, (("if", ("back", "king"), (("move", "king", "crown"),), ()),))), True)

    def test_other_events(self):
        king = (("king",), (0,))
        for one, two, picture in (
            ((("turn", "king", "any"),), (("turn", "king", "left"),), king),
            ((("turn", "king", "left"),), (("turn", "king", "right"),), king),
            ((("exit", "king", "any"),), (("exit", "king", "before"),), king),
            ((("move", "king", "hand"),), (("move", "king", "crown"),), king),
            ((("move", "king", "hand"),), (("rest",),), ((), ())),
            ((("pass", "fool", "left", "any"),), (("pass", "fool", "left", "behind"),), (("king", "fool"), (0, 0))),
            ((("if", ("back", "fool"), (("turn", "queen", "any"),), ()),),
             (("if", ("back", "fool"), (("turn", "queen", "left"),), ()),), (("fool",), (1,))),
        ):
            told = self.alike(one, two)
            self.assertEqual((bool(told), told.same), (False, False))
            if one[0][0] != "if":
                self.assertEqual(told.picture, picture)

    def test_another_way_to_end_or_another_picture(self):
        self.assertEqual(self.alike((("until", ("on", "king"), ()),), ()).picture, ((), ()))
        spoilt = (("exit", "king", "any"), ("turn", "king", "any"))
        self.assertEqual(self.alike((("exit", "king", "any"),), spoilt).picture, (("king",), (0,)))
        long = (("repeat", 4, (("repeat", 4, (("repeat", 4, (("rest",),) * 5),)),)),)
        self.assertEqual(self.alike((("until", ("on", "king"), ()),), long).picture, ((), ()))
        enters = (("if", ("off", "fool"), (("enter", "fool", "left"),), ()),)
        other = (("if", ("off", "fool"), (("enter", "fool", "right"),), ()),)
        self.assertEqual(self.alike(enters, other).picture, ((), ()))

    def test_errors(self):
        book, other = book_of(()), Book(Cast((("king", ("hand",)),)), (("sa", ()),))
        for thing in (None, 0, "sb", ("sa",), ["sa"], True):
            self.due_as_passed(Unknown, "name", thing, SceneAlike, book, thing, other, "none")
            self.due_as_passed(Unknown, "name", thing, SceneAlike, book, "sa", other, thing)
            self.due_as_passed(Unknown, "name", thing, endings, book, thing)
        self.due(Unlike("casts"), SceneAlike, book, "sa", other, "sa")

    def test_equal_casts_that_are_not_one(self):
        self.assertIs(bool(SceneAlike(book_of(()), "sa", Book(troupe(), [["sb", []]]), "sb")), True)


class EndingsTest(Case):
    def test_against_all_flows(self):
        long = (("repeat", 4, (("repeat", 4, (("repeat", 4, (("rest",),) * 5),)),)),)
        body = (("if", ("back", "queen"), (("until", ("off", "queen"), ()),),
                 (("if", ("on", "king"), (("if", ("on", "fool"), long, (("exit", "king", "any"),)),),
                   (("turn", "fool", "any"),)),)),)
        alone = (("if", ("on", "king"), (), (("if", ("on", "queen"), (), (("turn", "fool", "any"),)),)),)
        alone = alone + (("if", ("on", "fool"), (), alone),)
        for book in (book_of(body), book_of(()), book_of(long), book_of((("exit", "king", "any"),)), book_of(alone)):
            found = {"ends": [], "spoilt": [], "round": [], "long": []}
            for picture in pictures(book.cast):
                found[flow(book, "sa", picture).ended].append(picture)
            self.assertEqual(endings(book, "sa"), tuple(
                (word, len(those), min(those, key=list(pictures(book.cast)).index, default=None))
                for word, those in found.items()))

    def test_an_example(self):
        book = book_of((("exit", "king", "any"),))
        self.assertEqual(endings(book, "sa"), (
            ("ends", 2 + 16 + 48, (("king",), (0,))), ("spoilt", 13, ((), ())), ("round", 0, None), ("long", 0, None)))
