"""Point 7: flows, how they are counted, the four ways in which they end; and scenes written out."""

import random
import unittest

from freestrung.errors import BadPicture, TooLong, Unknown
from freestrung.flows import Flow, flow, written_out
from freestrung.pictures import acted, fits, holds_in, pictures
from freestrung.scenes import Book
from tests.helpers import NO_NAMES, NO_ROWS, Case, book_of, listed, only_tuples, troupe

KING = (("king",), (0,))
PAIR = (("king", "queen"), (0, 0))
NONE = ((), ())
TURN = ("turn", "king", "any")
REST = ("rest",)
NEVER = ("left", "king", "king")


class Ended(Exception):
    """A flow under way has ended in some way other than by its last statement."""


class Told:
    """A flow as [7] tells it, done by plain recursion, to compare with."""

    def __init__(self, book, scene, picture):
        self.book, self.picture, self.deeds, self.counts, self.ended = book, picture, [], 0, "ends"
        try:
            self.do_body(book[scene])
        except Ended as error:
            self.ended = str(error)

    def count(self):
        self.counts += 1
        if self.counts == 301:
            raise Ended("long")

    def do_body(self, body):
        for statement in body:
            if statement[0] == "until":
                self.do_until(statement[1], statement[2])
            else:
                self.count()
                self.do_statement(statement)

    def do_until(self, test, body):
        looks = []
        while True:
            self.count()
            if holds_in(self.picture, test):
                return
            if self.picture in looks:
                raise Ended("round")
            looks.append(self.picture)
            self.do_body(body)

    def do_statement(self, statement):
        if statement[0] == "call":
            self.do_body(self.book[statement[1]])
        elif statement[0] == "repeat":
            for _ in range(statement[1]):
                self.do_body(statement[2])
        elif statement[0] == "if":
            self.do_body(statement[2 if holds_in(self.picture, statement[1]) else 3])
        else:
            self.do_deed(statement)

    def do_deed(self, statement):
        if statement[0] == "pass":
            _, puppet, side, way = statement
            row = (None,) + self.picture[0] + (None,)
            if puppet not in row:
                raise Ended("spoilt")
            other = row[row.index(puppet) + (1 if side == "right" else -1)]
            statement = ("pass", puppet, other, side, way)
        if not fits(self.picture, statement):
            raise Ended("spoilt")
        if len(self.deeds) == 60:
            raise Ended("long")
        self.deeds.append(statement)
        self.picture = acted(self.picture, statement)


def random_body(chance, deep, scenes):
    """A random body, with calls of these scenes."""
    body = []
    for _ in range(chance.randint(0 if deep else 1, 3)):
        kind = chance.randrange(10 if deep < 4 else 7)
        name, other = chance.choice(("king", "queen", "fool")), chance.choice(("king", "queen", "fool"))
        test = chance.choice((("on", name), ("off", name), ("front", name), ("back", name), ("left", name, other)))
        body.append((
            lambda: ("pass", name, chance.choice(("left", "right")), "any"),
            lambda: ("turn", name, chance.choice(("left", "right", "any"))),
            lambda: ("turn", name, "any"),
            lambda: ("exit", name, "any"),
            lambda: ("enter", name, chance.choice(("left", "right"))),
            lambda: REST,
            lambda: ("call", chance.choice(scenes)) if scenes else REST,
            lambda: ("repeat", chance.randint(1, 4), random_body(chance, deep + 1, scenes)),
            lambda: ("until", test, random_body(chance, deep + 1, scenes)),
            lambda: ("if", test, random_body(chance, deep + 1, scenes), random_body(chance, deep + 1, scenes)),
        )[kind]())
    return tuple(body)


def guarded(body):
    """The body with rests for passes, in which no other deed is due where it does not fit."""
    found = []
    for statement in body:
        if statement[0] in ("turn", "exit"):
            statement = ("if", ("on", statement[1]), (statement,), ())
        elif statement[0] == "enter":
            statement = ("if", ("off", statement[1]), (statement,), ())
        elif statement[0] == "pass":
            statement = REST
        elif statement[0] in ("if", "until", "repeat"):
            statement = statement[:2] + tuple(guarded(inner) for inner in statement[2:])
        found.append(statement)
    return tuple(found)


def random_book(chance):
    """A random book with three scenes, or None if it would be too long; half of them come to long flows."""
    bodies = [random_body(chance, 0, ("sb", "sc")), random_body(chance, 1, ("sc",)), random_body(chance, 1, ())]
    if chance.random() < 0.5:
        bodies = [guarded(body) for body in bodies]
        bodies[0] = (("repeat", 4, (("repeat", 4, bodies[0]),)),)
    try:
        return book_of(*bodies)
    except TooLong:
        return None


class FlowTest(Case):
    def told(self, picture, *bodies):
        found = flow(book_of(*bodies), "sa", picture)
        return found.ended, found.deeds, found.picture

    def test_deeds_and_the_neighbour(self):
        body = (("pass", "queen", "left", "any"), ("turn", "king", "left"), ("enter", "fool", "right"),
                ("pass", "king", "right", "before"), ("exit", "queen", "behind"), ("move", "king", "hand"), REST)
        deeds = (("pass", "queen", "king", "left", "any"), ("turn", "king", "left"), ("enter", "fool", "right"),
                 ("pass", "king", "fool", "right", "before"), ("exit", "queen", "behind"),
                 ("move", "king", "hand"), REST)
        self.assertEqual(self.told(PAIR, body), ("ends", deeds, (("fool", "king"), (0, 1))))

    def test_blocks(self):
        body = (("if", ("front", "king"), (TURN,), (REST,)), ("if", ("front", "king"), (TURN,), (REST,)),
                ("repeat", 3, (("call", "sb"),)), ("until", ("front", "king"), (TURN,)))
        self.assertEqual(self.told(KING, body, (("move", "king", "hand"),)),
                         ("ends", (TURN, REST) + (("move", "king", "hand"),) * 3 + (TURN,), KING))
        self.assertEqual(self.told(KING, ()), ("ends", (), KING))

    def test_spoilt(self):
        for picture, statement in (
            (KING, ("pass", "king", "left", "any")), (KING, ("pass", "king", "right", "any")),
            (KING, ("pass", "queen", "left", "any")), (PAIR, ("pass", "king", "left", "any")),
            (PAIR, ("pass", "queen", "right", "any")), (KING, ("turn", "queen", "any")),
            (KING, ("exit", "queen", "any")),
            (KING, ("move", "queen", "fan")), (KING, ("enter", "king", "left")), (NONE, ("exit", "king", "any")),
        ):
            self.assertEqual(self.told(picture, (REST, statement, REST)), ("spoilt", (REST,), picture))

    def test_a_full_stage(self):
        from freestrung.casts import Cast
        cast = Cast(tuple((name, ("j",)) for name in "abcde"))
        book = Book(cast, (("sa", (("enter", "e", "left"),)),))
        full = (("a", "b", "c", "d"), (0, 0, 0, 0))
        self.assertEqual(flow(book, "sa", full), Flow((), full, "spoilt"))
        self.assertTrue(flow(book, "sa", (("a", "b", "c"), (0, 0, 0))))

    def test_round_in_the_same_picture(self):
        self.assertEqual(self.told(KING, (("until", ("on", "queen"), ()),)), ("round", (), KING))
        turning = ("until", ("on", "queen"), (TURN,))
        self.assertEqual(self.told(KING, (turning, REST)), ("round", (TURN, TURN), KING))
        three = (("king", "queen", "fool"), (0, 0, 0))
        passing = ("until", NEVER, (("pass", "king", "right", "any"), ("pass", "king", "left", "any")))
        self.assertEqual(self.told(three, (passing,))[0], "round")

    def test_an_until_that_is_begun_anew(self):
        once = ("until", ("back", "king"), (TURN,))
        body = (("repeat", 4, (once, TURN)),)
        self.assertEqual(self.told(KING, body), ("ends", (TURN,) * 8, KING))
        outer = ("until", ("on", "queen"), (once, TURN, ("if", ("on", "fool"), (("enter", "queen", "left"),),
                                                         (("enter", "fool", "left"),))))
        self.assertEqual(self.told(KING, (outer,))[0], "ends")

    def test_looks_of_the_inner_until_are_its_own(self):
        inner = ("until", ("back", "king"), (TURN,))
        outer = ("until", ("off", "king"), (inner,))
        self.assertEqual(self.told(KING, (outer,)), ("round", (TURN,), (("king",), (1,))))

    def test_sixty_deeds(self):
        rests = (("repeat", 4, (("repeat", 3, (REST,) * 5),)),)
        self.assertEqual(self.told(NONE, rests), ("ends", (REST,) * 60, NONE))
        self.assertEqual(self.told(NONE, rests + (REST,)), ("long", (REST,) * 60, NONE))
        self.assertEqual(self.told(NONE, rests + (TURN,)), ("spoilt", (REST,) * 60, NONE))
        looking = rests + (("until", ("on", "king"), ()),)
        self.assertEqual(self.told(NONE, looking), ("round", (REST,) * 60, NONE))
        self.assertEqual(self.told(KING, looking), ("ends", (REST,) * 60, KING))

    def test_three_hundred_counts(self):
        # A repeat of 4 of a repeat of 4 of 17 empty ifs: 1 + 4 * (1 + 4 * 17) = 277 counts.
        empty = ("if", NEVER, (), ())
        many = ("repeat", 4, (("repeat", 4, (empty,) * 17),))
        self.assertEqual(self.told(NONE, (many,) + (empty,) * 23), ("ends", (), NONE))
        self.assertEqual(self.told(NONE, (many,) + (empty,) * 24), ("long", (), NONE))
        self.assertEqual(self.told(NONE, (many,) + (empty,) * 23 + (TURN,)), ("long", (), NONE))
        self.assertEqual(self.told(NONE, (many,) + (empty,) * 22 + (TURN,)), ("spoilt", (), NONE))
        self.assertEqual(self.told(NONE, (many,) + (empty,) * 22 + (REST, REST)), ("long", (REST,), NONE))

    def test_what_counts(self):
        empty = ("if", NEVER, (), ())
        many = (("repeat", 4, (("repeat", 4, (empty,) * 17),)),)
        looks = ("until", ("on", "king"), ())
        self.assertEqual(self.told(KING, many + (looks,) * 23)[0], "ends")
        self.assertEqual(self.told(KING, many + (looks,) * 24)[0], "long")
        self.assertEqual(self.told(NONE, many + (empty,) * 21 + (looks,))[0], "round")
        self.assertEqual(self.told(NONE, many + (empty,) * 22 + (looks,))[0], "long")
        self.assertEqual(self.told(KING, many + (("call", "sb"),) * 23, ())[0], "ends")
        self.assertEqual(self.told(KING, many + (("call", "sb"),) * 24, ())[0], "long")
        self.assertEqual(self.told(KING, many + (("repeat", 4, ()),) * 23)[0], "ends")
        self.assertEqual(self.told(KING, many + (("repeat", 4, ()),) * 24)[0], "long")

    def test_long_by_the_count_goes_ahead(self):
        empty = ("if", NEVER, (), ())
        rests = ("repeat", 4, (("repeat", 3, (REST,) * 5),))
        # 1 + 4 * (1 + 3 * 5) = 65 counts and 60 deeds; 1 + 4 * (1 + 4 * 14) = 229 counts more.
        head = (rests, ("repeat", 4, (("repeat", 4, (empty,) * 14),)))
        for last, word in ((TURN, "spoilt"), (REST, "long"), (("until", ("on", "king"), ()), "round")):
            self.assertEqual(self.told(NONE, head + (empty,) * 4 + (last,)), (word, (REST,) * 60, NONE))
            self.assertEqual(self.told(NONE, head + (empty,) * 6 + (last,)), ("long", (REST,) * 60, NONE))

    def test_as_told_for_random_books(self):
        chance = random.Random(7)
        seen = {"ends": 0, "spoilt": 0, "round": 0, "long": 0}
        for _ in range(500):
            book = random_book(chance)
            if book is None:
                continue
            for picture in chance.sample(list(pictures(troupe())), 8):
                found = flow(book, "sa", picture)
                told = Told(book, "sa", picture)
                self.assertEqual((found.deeds, found.picture), (tuple(told.deeds), told.picture))
                self.assertEqual(found.ended, told.ended)
                seen[found.ended] += 1
        self.assertTrue(all(number > 20 for number in seen.values()), seen)


class FlowClassTest(Case):
    def test_what_a_flow_tells(self):
        book = book_of((REST, TURN), (TURN, TURN, ("turn", "queen", "any")))
        good, bad = flow(book, "sa", KING), flow(book, "sb", KING)
        self.assertIsInstance(good, Flow)
        self.assertEqual((len(good), list(good), bool(good)), (2, [REST, TURN], True))
        self.assertEqual((len(bad), list(bad), bool(bad)), (2, [TURN, TURN], False))
        self.assertIs(bool(flow(book_of(()), "sa", KING)), True)

    def test_equal(self):
        book = book_of((TURN, TURN), (TURN, TURN), (("turn", "king", "left"),) * 2, (TURN, TURN, TURN), (REST,))
        self.assertEqual(flow(book, "sa", KING), flow(book, "sb", KING))
        self.assertNotEqual(flow(book, "sa", KING), flow(book, "sc", KING))
        self.assertNotEqual(flow(book, "sa", KING), flow(book, "sd", KING))
        self.assertNotEqual(flow(book, "sa", KING), flow(book, "sa", (("king",), (1,))))
        spoilt = book_of((REST, TURN))
        self.assertNotEqual(flow(spoilt, "sa", NONE), flow(book, "se", NONE))
        self.assertIs(flow(book, "sa", KING) == ((TURN, TURN), KING, "ends"), False)

    def test_errors(self):
        book = book_of((REST,))
        for thing in NO_NAMES + NO_ROWS + ("sb", 0):
            self.due_as_passed(Unknown, "name", thing, flow, book, thing, KING)
        for thing in NO_ROWS + ((("bishop",), (0,)), (("king",), (2,)), (("king",), (True,)), ["king", 0]):
            self.due_as_passed(BadPicture, "picture", thing, flow, book, "sa", thing)
        self.due(Unknown("sb"), flow, book, "sb", None)

    def test_lists(self):
        book = book_of((REST, ("pass", "king", "right", "any")))
        passed = listed(PAIR)
        found = flow(book, "sa", passed)
        self.assertEqual(found, flow(book, "sa", PAIR))
        self.assertTrue(only_tuples(found.deeds) and only_tuples(found.picture))
        self.assertEqual(passed, listed(PAIR))
        still = flow(book_of(()), "sa", passed)
        self.assertTrue(only_tuples(still.picture))


class WrittenOutTest(Case):
    def test_calls_and_repeats(self):
        test = ("on", "king")
        inner = ("if", test, (("call", "sb"), REST), (("repeat", 2, (TURN, ("call", "sb"))),))
        book = book_of((inner, ("repeat", 3, (("until", test, (("call", "sc"),)),)), ("call", "sb")),
                       (("move", "king", "hand"),), (("repeat", 2, (("call", "sb"),)), ("repeat", 4, ())))
        hand = ("move", "king", "hand")
        self.assertEqual(written_out(book, "sa"), (
            ("if", test, (hand, REST), (TURN, hand, TURN, hand)),
        ) + (("until", test, (hand, hand)),) * 3 + (hand,))
        self.assertEqual(written_out(book, "sb"), (hand,))
        self.assertEqual(written_out(book_of(()), "sa"), ())

    def test_bounds(self):
        # 4 * 4 * 4 * 31 = 1984 statements.
        many = ("repeat", 4, (("repeat", 4, (("repeat", 4, (REST,) * 31),)),))
        self.assertEqual(len(written_out(book_of((many,) + (REST,) * 16), "sa")), 2000)
        self.due(TooLong(2001), written_out, book_of((many,) + (REST,) * 17), "sa")
        self.assertEqual(len(written_out(book_of((many,) + (TURN, ("pass", "king", "left", "any")) * 8), "sa")), 2000)
        inner = ("until", ("on", "king"), (REST,))
        self.due(TooLong(2004), written_out, book_of((many,) + (inner,) * 10), "sa")
        self.assertEqual(len(written_out(book_of((many,) + (inner,) * 8), "sa")), 1992)

    def test_a_very_long_one(self):
        bodies = [(("call", "s" + "bcdef"[number]),) * 16 for number in range(5)]
        self.due(TooLong(16 ** 5), written_out, book_of(*bodies, (REST,)), "sa")
        self.assertEqual(written_out(book_of(*bodies, ()), "sa"), ())
        deep = REST
        for _ in range(19):
            deep = ("repeat", 4, (deep,))
        self.due(TooLong(4 ** 19 * 4 ** 19), written_out, book_of((nest(deep, "sb"),), (deep,)), "sa")

    def test_errors(self):
        for thing in NO_NAMES + ("sb",):
            self.due_as_passed(Unknown, "name", thing, written_out, book_of(()), thing)

    def test_the_flow_stays_the_same(self):
        chance = random.Random(70)
        compared = 0
        for _ in range(200):
            book = random_book(chance)
            if book is None:
                continue
            try:
                body = written_out(book, "sa")
                written = Book(book.cast, (("sa", body),))
            except TooLong:
                continue
            self.assertNotIn("repeat", str(body))
            self.assertNotIn("call", str(body))
            for picture in chance.sample(list(pictures(troupe())), 8):
                one, other = flow(book, "sa", picture), flow(written, "sa", picture)
                if "long" not in (one.ended, other.ended):
                    self.assertEqual(one, other)
                    compared += 1
        self.assertGreater(compared, 200)


def nest(statement, scene):
    """The same statement with the innermost rest replaced by a call."""
    if statement == REST:
        return ("call", scene)
    return statement[:2] + (tuple(nest(inner, scene) for inner in statement[2]),)


if __name__ == "__main__":
    unittest.main()
