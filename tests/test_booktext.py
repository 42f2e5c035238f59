"""Point 6: the lines of a book, and which word of spoilt lines is told."""

import random
import unittest

from freestrung.casts import Cast
from freestrung.errors import BadBook, BadCast, BadLine, BadStatement, Ring, TooLong, Twice, Unknown
from freestrung.scenes import Book
from freestrung.scenetext import read_book, write_book
from tests.helpers import Case, book_of

SAMPLE = tuple("""puppet king crown hand
puppet queen fan
scene duel
pass king right before
until front king
turn king any
end
if left queen king
repeat 2
move queen fan
rest
end
else
call bow
end
end
scene bow
turn queen left
end""".split("\n"))

ALL_KINDS = tuple("""puppet a j
puppet b j k
puppet c j k l
scene one
pass a left before
pass a right behind
pass a left any
turn a left
turn a right
turn a any
move a j
exit a before
exit a behind
exit a any
enter a left
enter a right
rest
call two
repeat 1
repeat 4
end
end
until on a
end
until off a
rest
end
until front a
end
until back a
end
until left a b
end
if on a
end
if off a
else
rest
end
if front a
rest
end
if back a
rest
else
if left a a
end
end
end
scene two
end""".split("\n"))


def with_line(lines, at, line):
    return lines[:at] + (line,) + lines[at + 1:]


def random_body(chance, deep):
    """A random body for the puppets of ALL_KINDS."""
    body = []
    for _ in range(chance.randrange(4)):
        kind = chance.randrange(9 if deep < 5 else 6)
        name = chance.choice("abc")
        test = chance.choice((("on", name), ("off", name), ("front", name), ("back", name), ("left", name, "a")))
        body.append((
            lambda: ("pass", name, chance.choice(("left", "right")), chance.choice(("before", "behind", "any"))),
            lambda: ("turn", name, chance.choice(("left", "right", "any"))),
            lambda: ("move", name, "j"),
            lambda: ("exit", name, chance.choice(("before", "behind", "any"))),
            lambda: ("enter", name, chance.choice(("left", "right"))),
            lambda: chance.choice((("rest",), ("call", "two"))),
            lambda: ("repeat", chance.randint(1, 4), random_body(chance, deep + 1)),
            lambda: ("until", test, random_body(chance, deep + 1)),
            lambda: ("if", test, random_body(chance, deep + 1), random_body(chance, deep + 1)),
        )[kind]())
    return tuple(body)


class WriteAndReadTest(Case):
    def test_the_sample(self):
        book = read_book(SAMPLE)
        self.assertEqual(book, Book(Cast((("king", ("crown", "hand")), ("queen", ("fan",)))), (
            ("duel", (
                ("pass", "king", "right", "before"),
                ("until", ("front", "king"), (("turn", "king", "any"),)),
                ("if", ("left", "queen", "king"),
                 (("repeat", 2, (("move", "queen", "fan"), ("rest",))),), (("call", "bow"),)),
            )),
            ("bow", (("turn", "queen", "left"),)),
        )))
        self.assertEqual(write_book(book), SAMPLE)

    def test_all_kinds_of_lines(self):
        self.assertEqual(write_book(read_book(ALL_KINDS)), ALL_KINDS)

    def test_lists(self):
        passed = list(ALL_KINDS)
        self.assertEqual(write_book(read_book(passed)), ALL_KINDS)
        self.assertEqual(passed, list(ALL_KINDS))

    def test_random_books(self):
        chance = random.Random(6)
        cast = Cast((("a", ("j",)), ("b", ("j", "k")), ("c", ("j",))))
        for _ in range(300):
            scenes = (("one", random_body(chance, 0)), ("two", (("rest",),)))
            try:
                book = Book(cast, scenes)
            except TooLong:
                continue
            lines = write_book(book)
            self.assertIsInstance(lines, tuple)
            self.assertEqual(read_book(lines), book)
            self.assertEqual(write_book(read_book(lines)), lines)

    def test_an_empty_second_body_is_not_written(self):
        test = ("on", "king")
        self.assertEqual(write_book(book_of((("if", test, (), ()),)))[3:], ("scene sa", "if on king", "end", "end"))
        self.assertEqual(write_book(book_of((("if", test, (), (("rest",),)),)))[4:],
                         ("if on king", "else", "rest", "end", "end"))


class BadWordsTest(Case):
    def test_a_word_that_cannot_stand_there(self):
        for lines in (SAMPLE, ALL_KINDS):
            for at, line in enumerate(lines):
                words = line.split(" ")
                for place in range(len(words)):
                    for word in ("?", "", "Abc", "curtain", "ninelongs", "0", "5"):
                        spoilt = " ".join(words[:place] + [word] + words[place + 1:])
                        self.due(BadLine(at, place), read_book, with_line(lines, at, spoilt))

    def test_a_word_too_much(self):
        for at, line in enumerate(ALL_KINDS):
            many = len(line.split(" "))
            for word in ("", "?", "1"):
                self.due(BadLine(at, many), read_book, with_line(ALL_KINDS, at, f"{line} {word}"))
            if not line.startswith("puppet") or many == 5:
                self.due(BadLine(at, many), read_book, with_line(ALL_KINDS, at, f"{line} rest"))
                self.due(BadLine(at, many), read_book, with_line(ALL_KINDS, at, f"{line} abc abc"))

    def test_a_blank_at_the_beginning(self):
        for at, line in enumerate(ALL_KINDS):
            self.due(BadLine(at, 0), read_book, with_line(ALL_KINDS, at, f" {line}"))
            self.due(BadLine(at, 0), read_book, with_line(ALL_KINDS, at, ""))
            self.due(BadLine(at, 0), read_book, with_line(ALL_KINDS, at, f"\t{line}"))

    def test_two_blanks(self):
        for at, line in enumerate(ALL_KINDS):
            words = line.split(" ")
            for place in range(1, len(words)):
                spoilt = " ".join(words[:place]) + "  " + " ".join(words[place:])
                self.due(BadLine(at, place), read_book, with_line(ALL_KINDS, at, spoilt))

    def test_a_line_that_ends_too_early(self):
        for at, line in enumerate(ALL_KINDS):
            words = line.split(" ")
            for many in range(1, len(words)):
                if words[0] != "puppet" or many < 3:
                    self.due(BadLine(at, many), read_book, with_line(ALL_KINDS, at, " ".join(words[:many])))

    def test_a_line_that_is_no_string(self):
        for at in range(len(ALL_KINDS)):
            for line in (None, 7, ("rest",), ["rest"], b"rest", True):
                self.due(BadLine(at, 0), read_book, with_line(ALL_KINDS, at, line))

    def test_lines_that_end_too_early(self):
        first_scene = len(ALL_KINDS) - 2
        for many in range(4, len(ALL_KINDS)):
            if many != first_scene:
                self.due(BadLine(many, 0), read_book, ALL_KINDS[:many])
        self.due(Unknown("two"), read_book, ALL_KINDS[:first_scene])

    def test_the_first_bad_word_is_told(self):
        lines = with_line(with_line(SAMPLE, 3, "pass king up now"), 10, "stay")
        self.due(BadLine(3, 2), read_book, lines)
        self.due(BadLine(3, 1), read_book, with_line(SAMPLE, 3, "pass KING up now"))
        self.due(BadLine(3, 3), read_book, with_line(SAMPLE, 3, "pass king left"))

    def test_each_word_has_its_own_words(self):
        head = ("puppet a j", "scene one")
        for line, word in (
            ("pass a left left", 3), ("pass a any before", 2), ("pass a before before", 2), ("turn a before", 2),
            ("turn a behind", 2), ("exit a left", 2), ("exit a right", 2), ("enter a any", 2), ("enter a before", 2),
            ("repeat 0", 1), ("repeat 5", 1), ("repeat 01", 1), ("repeat +1", 1), ("repeat -1", 1), ("repeat 1.0", 1),
            ("repeat two", 1), ("until at a", 1), ("until a on", 1), ("until any a", 1), ("if on left", 2),
            ("if on a a", 3), ("if left a", 3), ("if left a b c", 4), ("until left", 2), ("if", 1), ("until", 1),
            ("call one two", 2), ("call two one two", 2), ("rest rest", 1), ("end end", 1), ("turn any any", 1),
            ("move a any", 2), ("stay", 0), ("puppet b j", 0), ("scene two", 0), ("else", 0), ("on a", 0),
            ("opening", 0), ("first a", 0), ("ends a", 0), ("Pass a left any", 0), ("pass", 1), ("call", 1),
        ):
            self.due(BadLine(2, word), read_book, head + (line, "end"))
            self.due(BadLine(2, word), read_book, list(head + (line,)))


class StructureTest(Case):
    def test_else_and_end(self):
        head = ("puppet a j", "scene one")
        for body, line in (
            (("else",), 2), (("if on a", "else", "end", "end"), 4), (("if on a", "rest", "else", "end", "end"), 5),
            (("if on a", "else", "else", "rest", "end", "end"), 4), (("if on a", "else", "end now", "end"), 4),
            (("if on a", "else", "rest", "else", "rest", "end", "end"), 5), (("until on a", "else", "end", "end"), 3),
            (("repeat 2", "rest", "else", "rest", "end", "end"), 4), (("end", "end"), 3), (("end", "rest"), 3),
            (("end", "puppet b j"), 3), (("end", "else"), 3), (("end", ""), 3), (("if on a", "else"), 4), ((), 2),
            (("if on a", "else", "rest"), 5), (("if on a", "end"), 4), (("rest",), 3), (("end", "opening"), 3),
            (("if on a", "if on a", "end", "else", "end", "end"), 6), (("if on a", "scene two"), 3),
        ):
            self.due(BadLine(line, 0), read_book, head + body)

    def test_the_heading(self):
        self.due(BadLine(0, 0), read_book, ("end",))
        self.due(BadLine(0, 0), read_book, ("rest",))
        self.due(BadLine(1, 0), read_book, ("puppet a j", "end"))
        self.due(BadLine(1, 0), read_book, ("puppet a j", "if on a"))
        self.due(BadLine(0, 5), read_book, ("puppet a j k l m",))
        self.due(BadLine(0, 2), read_book, ("puppet a",))
        self.due(BadLine(0, 1), read_book, ("puppet",))

    def test_deep_bodies_are_read(self):
        def lines_of(deep):
            return ("puppet a j", "scene one") + ("repeat 1",) * (deep - 1) + ("rest",) + ("end",) * deep
        self.assertEqual(write_book(read_book(lines_of(20))), lines_of(20))
        self.due(BadStatement("one"), read_book, lines_of(21))
        self.due(BadStatement("one"), read_book, lines_of(60))
        ifs = ("puppet a j", "scene one") + ("if on a", "else") * 59 + ("rest",) + ("end",) * 60
        self.due(BadStatement("one"), read_book, ifs)
        self.due(BadLine(len(ifs) - 1, 0), read_book, ifs[:-1])


class JudgedBehindTest(Case):
    def test_lines_ahead_of_objects(self):
        self.due(BadLine(1, 0), read_book, ("puppet a j j", "stay"))
        self.due(BadLine(3, 0), read_book, ("puppet a j j", "scene one", "turn b any"))

    def test_the_cast_ahead_of_the_book(self):
        self.due(BadCast(-1), read_book, ())
        self.due(BadCast(-1), read_book, ("scene one", "end"))
        self.due(BadCast(-1), read_book, tuple(f"puppet {name} j" for name in "abcdef"))
        self.due(BadCast(1), read_book, ("puppet a j", "puppet b j j", "scene one", "call two", "end"))
        self.due(Twice("a"), read_book, ("puppet a j", "puppet b j", "puppet a k", "scene one", "call two", "end"))

    def test_the_book(self):
        head = ("puppet a j",)
        self.due(BadBook("scenes"), read_book, head)
        seven = sum(((f"scene {name}", "end") for name in "abcdefg"), ())
        self.due(BadBook("scenes"), read_book, head + seven)
        self.assertEqual(len(read_book(head + seven[:12])), 6)
        self.due(Twice("b"), read_book, head + ("scene a", "end", "scene b", "end", "scene b", "end"))
        self.due(Unknown("b"), read_book, head + ("scene one", "turn b any", "end"))
        self.due(Unknown("k"), read_book, head + ("scene one", "move a k", "end"))
        self.due(Ring("one"), read_book, head + ("scene one", "call one", "end"))
        self.due(TooLong(101), read_book, head + ("scene one",) + ("rest",) * 101 + ("end",))


if __name__ == "__main__":
    unittest.main()
