"""Point 5: books, statements and tests, and the order in which a book is judged."""

import unittest

from freestrung.casts import Cast
from freestrung.errors import BadBook, BadStatement, Ring, TooLong, Twice, Unknown, Unlike
from freestrung.scenes import Book
from tests.helpers import NO_NAMES, NO_ROWS, TROUPE, Case, book_of, listed, only_tuples, troupe

REST = ("rest",)
ON = ("on", "king")


def nested(deep, inner=REST):
    """A statement that stands in one body, around one that stands in so many."""
    statement = inner
    for _ in range(deep - 1):
        statement = ("repeat", 2, (statement,))
    return statement


GOOD = (
    ("pass", "king", "left", "before"), ("pass", "king", "right", "behind"), ("pass", "king", "left", "any"),
    ("turn", "king", "left"), ("turn", "king", "right"), ("turn", "king", "any"), ("move", "king", "crown"),
    ("exit", "king", "before"), ("exit", "king", "behind"), ("exit", "king", "any"), ("enter", "king", "left"),
    ("enter", "king", "right"), REST, ("repeat", 1, ()), ("repeat", 4, (REST, REST)), ("until", ON, ()),
    ("until", ("off", "king"), (REST,)), ("if", ("front", "king"), (), ()), ("if", ("back", "king"), (REST,), ()),
    ("if", ("left", "king", "queen"), (), (REST,)), ("until", ("left", "king", "king"), (REST,)),
)

WRONG = (
    (), "rest", ("stay",), ("rest", "rest"), (REST,), None, 7, {"rest": 1}, ("pass", "king", "left"), (1,), (None,),
    ("pass", "king", "queen", "left", "before"), ("pass", "king", "before", "before"), ("pass", "king", "left", "up"),
    ("pass", "king", "left", "before", "any"), ("pass", "king", "any", "before"), ("pass", "King", "left", "any"),
    (["repeat"], 2, ()), ("turn", "king"), ("turn", "king", "before"),
    ("turn", "king", "left", "left"), ("turn", "king", None),
    ("move", "king"), ("move", "king", "Crown"), ("move", "king", "end"), ("move", ("king",), "crown"),
    ("exit", "king", "left"), ("exit", "king"), ("enter", "king", "any"), ("enter", "king"), ("enter", True, "left"),
    ("call",), ("call", "end"), ("call", "sa", "sa"), ("call", ("sa",)), ("repeat", 0, ()), ("repeat", 5, ()),
    ("repeat", True, ()), ("repeat", "2", ()), ("repeat", 2.0, ()), ("repeat", 2), ("repeat", 2, (), ()),
    ("repeat", 2, "ab"), ("repeat", 2, None), ("repeat", 2, REST), ("repeat", 2, (REST, ())), ("until", ON),
    ("until", (), ()), ("until", ("on",), ()), ("until", ("on", "king", "king"), ()), ("until", ("at", "king"), ()),
    ("until", ("left", "king"), ()), ("until", "on", ()), ("until", ON, (), ()), ("until", ON, {}),
    ("until", ("on", "end"), ()), ("until", ("on", 1), ()), ("if", ON, ()), ("if", ON, (), (), ()), ("if", ON, (), 1),
    ("if", ON, 1, ()), ("if", ("left", "king", "queen", "fool"), (), ()), ("if", ON, (("stay",),), ()),
    ("if", ON, (), (("repeat", 1, (("until", ON, (("turn", "king"),)),)),)), ("if", True, (), ()),
)


class FormTest(Case):
    def test_what_a_book_tells(self):
        scenes = (("duel", (("turn", "king", "any"), ("call", "bow"))), ("bow", ()))
        book = Book(troupe(), scenes)
        self.assertEqual(book.cast, troupe())
        self.assertEqual(book.scenes, scenes)
        self.assertEqual(book["duel"], scenes[0][1])
        self.assertEqual(book["bow"], ())
        self.assertEqual(len(book), 2)
        self.assertEqual(list(book), ["duel", "bow"])

    def test_what_is_in_it(self):
        book = book_of((), ())
        self.assertIs("sa" in book, True)
        self.assertIs("sb" in book, True)
        for thing in NO_NAMES + NO_ROWS + ("sc", "rest", 0):
            self.assertIs(thing in book, False)
            self.due_as_passed(Unknown, "name", thing, book.__getitem__, thing)
            self.due_as_passed(Unknown, "name", thing, book.calls_of, thing)

    def test_scenes(self):
        for thing in NO_ROWS + ((),):
            self.due(BadBook("scenes"), Book, troupe(), thing)
        for scene in NO_ROWS + ((), ("sb",), ("sb", (), ()), ("sb", None), ("sb", "ab"), ("sb", {})):
            self.due(BadBook("scenes"), Book, troupe(), (("sa", ()), scene))
        for name in NO_NAMES:
            self.due(BadBook("scenes"), Book, troupe(), ((name, ()),))
        self.assertEqual(len(book_of(*[()] * 6)), 6)
        self.due(BadBook("scenes"), book_of, *[()] * 7)

    def test_statements(self):
        for statement in GOOD:
            self.assertEqual(book_of((statement,))["sa"], (statement,))
            self.assertEqual(book_of((("if", ON, (), (statement,)),))["sa"], (("if", ON, (), (statement,)),))

    def test_wrong_statements(self):
        for statement in WRONG:
            self.due(BadStatement("sb"), book_of, (REST,), (REST, statement), (statement,))
            self.due(BadStatement("sb"), book_of, (), (("until", ON, (REST, statement)),))

    def test_how_deep_a_statement_may_stand(self):
        self.assertEqual(book_of((nested(20),))["sa"], (nested(20),))
        self.due(BadStatement("sa"), book_of, (nested(21),))
        self.due(BadStatement("sb"), book_of, (REST,), (REST, ("if", ON, (), (nested(20),))))
        self.assertEqual(book_of((("if", ON, (), (nested(19),)),))["sa"][0][0], "if")

    def test_an_empty_body_may_stand_deeper(self):
        for block in (("repeat", 2, ()), ("until", ON, ()), ("if", ON, (), ())):
            self.assertEqual(book_of((nested(20, block),))["sa"], (nested(20, block),))
            self.due(BadStatement("sa"), book_of, (nested(21, block),))

    def test_much_deeper(self):
        self.due(BadStatement("sa"), book_of, (nested(60),))


class OrderTest(Case):
    def test_scenes_ahead_of_twice(self):
        self.due(BadBook("scenes"), Book, troupe(), (("sa", ()), ("sa", ()), ("sb",)))

    def test_twice_ahead_of_statements(self):
        scenes = (("sa", (("stay",),)), ("sb", ()), ("sc", ()), ("sb", ()), ("sa", ()))
        self.due(Twice("sb"), Book, troupe(), scenes)
        self.due(BadStatement("sa"), Book, troupe(), scenes[:3])

    def test_how_long_a_book_may_be(self):
        self.assertEqual(len(list(book_of((REST,) * 100).statements("sa"))), 100)
        self.due(TooLong(101), book_of, (REST,) * 101)
        block = ("if", ON, (REST,) * 30, (("repeat", 2, (REST,) * 18),))
        self.assertEqual(len(list(book_of((block,), (block,)).statements("sb"))), 50)
        self.due(TooLong(101), book_of, (block,), (block,), (REST,))
        self.due(TooLong(150), book_of, (block, block), (block,))

    def test_statements_ahead_of_long_ahead_of_names(self):
        self.due(BadStatement("sb"), book_of, (REST,) * 101, (("stay",),))
        self.due(TooLong(102), book_of, (REST,) * 101 + (("turn", "bishop", "any"),))
        self.due(TooLong(101), book_of, (("call", "sa"),) * 101)

    def test_names_ahead_of_rings(self):
        self.due(Unknown("bishop"), book_of, (("call", "sa"),), (("turn", "bishop", "any"),))

    def test_the_first_unknown_name(self):
        for first, name in (
            (("pass", "bishop", "left", "any"), "bishop"), (("turn", "bishop", "any"), "bishop"),
            (("exit", "bishop", "any"), "bishop"), (("enter", "bishop", "left"), "bishop"),
            (("move", "bishop", "tail"), "bishop"), (("move", "king", "tail"), "tail"),
            (("move", "king", "fan"), "fan"),
            (("call", "sz"), "sz"), (("call", "king"), "king"), (("move", "king", "queen"), "queen"),
            (("until", ("on", "bishop"), (("turn", "maid", "any"),)), "bishop"),
            (("if", ("left", "king", "bishop"), (("turn", "maid", "any"),), ()), "bishop"),
            (("if", ("left", "page", "bishop"), (("turn", "maid", "any"),), ()), "page"),
            (("if", ON, (("turn", "maid", "any"),), (("turn", "page", "any"),)), "maid"),
            (("if", ON, (REST,), (("turn", "page", "any"),)), "page"),
            (("repeat", 2, (("until", ("off", "king"), (("move", "queen", "crown"),)),)), "crown"),
        ):
            self.due(Unknown(name), book_of, (REST,), (first, ("turn", "other", "any")), (("turn", "last", "any"),))

    def test_joints_of_the_puppet_named(self):
        self.assertEqual(len(book_of((("move", "king", "hand"), ("move", "fool", "hand")))), 1)
        self.due(Unknown("hand"), book_of, (("move", "queen", "hand"),))

    def test_rings(self):
        self.due(Ring("sa"), book_of, (("call", "sa"),))
        self.due(Ring("sa"), book_of, (("call", "sb"),), (("call", "sa"),))
        self.due(Ring("sb"), book_of, (("call", "sb"),), (("call", "sc"),), (("call", "sb"),))
        self.due(Ring("sc"), book_of, (("call", "sb"),), (), (("if", ON, (), (("repeat", 1, (("call", "sc"),)),)),))
        self.due(Ring("sb"), book_of, (("call", "sb"),), (("call", "sc"),), (("call", "sd"),), (("call", "sb"),))
        book_of((("call", "sb"), ("call", "sc")), (("call", "sd"),), (("call", "sd"),), ())

    def test_calls_count_reached_or_not(self):
        never = ("if", ("left", "king", "king"), (("call", "sa"),), ())
        self.due(Ring("sa"), book_of, (never,))


class MethodsTest(Case):
    def test_statements_as_they_are_written(self):
        inner = ("if", ON, (REST, ("turn", "king", "any")), (("move", "king", "hand"),))
        outer = ("repeat", 2, (inner, ("call", "sb")))
        book = book_of((outer, ("until", ON, (REST,))), ())
        self.assertEqual(list(book.statements("sa")), [
            outer, inner, REST, ("turn", "king", "any"), ("move", "king", "hand"), ("call", "sb"),
            ("until", ON, (REST,)), REST,
        ])
        self.assertEqual(list(book.statements("sb")), [])

    def test_a_generator_does_nothing_at_first(self):
        book = book_of((REST,))
        for thing in ("sz", ["sa"], None):
            unasked = book.statements(thing)
            self.due_as_passed(Unknown, "name", thing, next, unasked)

    def test_calls_of(self):
        book = book_of(
            (("call", "se"), ("if", ON, (), (("call", "sb"), ("call", "sb")))), (("repeat", 2, (("call", "sd"),)),),
            (), (), (("call", "sc"),), (("call", "sa"),),
        )
        self.assertEqual(book.calls_of("sa"), ("sb", "sc", "sd", "se"))
        self.assertEqual(book.calls_of("sb"), ("sd",))
        self.assertEqual(book.calls_of("sc"), ())
        self.assertEqual(book.calls_of("sf"), ("sa", "sb", "sc", "sd", "se"))

    def test_equal(self):
        self.assertEqual(book_of((REST,)), book_of([["rest"]]))
        self.assertNotEqual(book_of((REST,)), book_of(()))
        self.assertNotEqual(book_of((REST,)), book_of((REST,), ()))
        self.assertNotEqual(Book(Cast(TROUPE[:2]), (("sa", ()),)), book_of(()))
        self.assertIs(book_of(()) == (("sa", ()),), False)

    def test_one_behind_the_other(self):
        first = book_of((REST,), (("call", "sa"),))
        second = Book(troupe(), (("sz", (("turn", "king", "any"),)),))
        both = first + second
        self.assertEqual(both, Book(troupe(), first.scenes + second.scenes))
        self.assertEqual(list(first), ["sa", "sb"])
        self.assertEqual(list(second), ["sz"])
        self.due(Twice("sa"), lambda: first + first)

    def test_errors_of_one_behind_the_other(self):
        first = book_of((REST,) * 60)
        shorter = Book(Cast(TROUPE[:2]), (("sa", ()),))
        self.due(Unlike("casts"), lambda: first + shorter)
        self.due(TooLong(110), lambda: first + Book(troupe(), (("sb", (REST,) * 50),)))
        six = book_of(*[()] * 6)
        self.due(BadBook("scenes"), lambda: six + first)
        self.due(Unlike("casts"), lambda: six + shorter)

    def test_lists(self):
        scenes = (("sa", (REST, ("if", ("left", "king", "queen"), (("repeat", 2, (REST,)),), (("call", "sb"),)))),
                  ("sb", (("until", ON, (("move", "king", "crown"),)),)))
        passed = listed(scenes)
        book = Book(troupe(), passed)
        self.assertEqual(book, Book(troupe(), scenes))
        self.assertEqual(book.scenes, scenes)
        self.assertTrue(only_tuples(book.scenes))
        self.assertEqual(passed, listed(scenes))
        passed[0][1][1][2].append("end")
        self.assertEqual(book.scenes, scenes)
        self.assertTrue(all(only_tuples(statement) for statement in book.statements("sa")))


if __name__ == "__main__":
    unittest.main()
