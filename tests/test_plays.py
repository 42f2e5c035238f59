"""Points 9, 10 and 33 as far as plays tell them: plays, their lines, and the picture behind a row of calls."""

import unittest

from freestrung.casts import Cast
from freestrung.errors import (
    BadCall, BadCast, BadLine, BadPicture, BadPlan, BadRow, BadStatement, Stray, TooMany, Twice, Unknown,
)
from freestrung.flows import flow
from freestrung.plans import Plan
from freestrung.plays import Play
from freestrung.playtext import read_play, write_play
from freestrung.scenes import Book
from tests.helpers import NO_ROWS, TROUPE, Case, book_of, listed, only_tuples, troupe
from tests.test_plans import NUMBERS, named

OPENING = (("king", "queen"), (0, 1))
BODIES = ((("pass", "king", "right", "any"),), (("turn", "queen", "left"),), (("exit", "king", "any"),))
PLAN = (("aa", ("bb", "aa"), (("aa", "sa", "bb"), ("bb", "sb", "bb"), ("bb", "sc", "aa"))))

SAMPLE = tuple("""puppet king crown hand
puppet queen fan
puppet fool bell nose hand
scene sa
pass king right any
end
scene sb
turn queen left
end
scene sc
exit king any
end
opening king front queen back
first aa
ends bb aa
call aa sa bb
call bb sb bb
call bb sc aa""".split("\n"))


def sample():
    return Play(book_of(*BODIES), Plan(*PLAN), OPENING)


class PlayTest(Case):
    def test_what_a_play_tells(self):
        play = sample()
        self.assertEqual(play.book, book_of(*BODIES))
        self.assertEqual(play.plan, Plan(*PLAN))
        self.assertEqual(play.opening, OPENING)

    def test_unknown_scenes_and_openings(self):
        book = book_of(*BODIES[:1])
        self.due(Unknown("sb"), Play, book, Plan(*PLAN), None)
        self.due(Unknown("sc"), Play, book_of(*BODIES[:2]), Plan(*PLAN), OPENING)
        wrong = NO_ROWS + ((("bishop",), (0,)), (("king", "king"), (0, 0)), (("king",), (2,)), (("king",), (True,)),
                           (("king",), ()), ((), (), ()), ["king", 0])
        for thing in wrong:
            self.due_as_passed(BadPicture, "picture", thing, Play, book_of(*BODIES), Plan(*PLAN), thing)

    def test_the_beginning(self):
        self.assertEqual(sample().beginning, ("aa", (("king", "queen"), (0, 1), (0, 0), ((1,), (2,)), ())))
        empty = sample().changed(opening=((), ()))
        self.assertEqual(empty.beginning, ("aa", ((), (), (), (), ())))

    def test_flows(self):
        play = sample()
        self.assertEqual(play.flow(0, OPENING), flow(play.book, "sa", OPENING))
        self.assertEqual(play.flow(2, OPENING).deeds, (("exit", "king", "any"),))
        self.assertEqual(play.flow(0, listed(OPENING)), play.flow(0, OPENING))
        self.assertFalse(play.flow(2, ((), ())))
        for thing in NUMBERS:
            self.due_as_passed(BadCall, "number", thing, play.flow, thing, None)
        for thing in NO_ROWS + ((("bishop",), (0,)),):
            self.due_as_passed(BadPicture, "picture", thing, play.flow, 0, thing)

    def test_the_picture_behind(self):
        play = sample()
        for row, picture in (
            ((), OPENING), ((0,), (("queen", "king"), (1, 0))), ((0, 1), (("queen", "king"), (0, 0))),
            ((0, 1, 1, 2), (("queen",), (1,))), ((0, 2, 0), None), ((0, 2, 0, 1), None),
        ):
            self.assertEqual(self.same_with_lists(play.picture_behind, row), picture)

    def test_rows_are_judged_whole_at_first(self):
        play = sample()
        self.due(BadRow(3), play.picture_behind, (0, 2, 0, 0))
        self.due(BadRow(0), play.picture_behind, (1,))
        self.due(BadRow(1), play.picture_behind, (0, True))
        self.due(BadRow(0), play.picture_behind, (-3,))
        for thing in NO_ROWS:
            self.due(BadRow(-1), play.picture_behind, thing)

    def test_changed(self):
        play = sample()
        self.assertEqual(play.changed(), play)
        still = play.changed(opening=[["queen"], [0]], plan=Plan("aa", ("aa",), ()))
        self.assertEqual(still, Play(play.book, Plan("aa", ("aa",), ()), (("queen",), (0,))))
        self.assertEqual(play, sample())
        book = book_of((), (), (), ())
        self.assertEqual(play.changed(book=book).book, book)
        self.due(Unknown("sa"), play.changed, book=Book(troupe(), (("sb", ()),)), opening=None)
        self.due(BadPicture(None), play.changed, opening=None)
        self.due(BadPicture(OPENING), play.changed, book=Book(Cast(TROUPE[1:]), (("sa", ()), ("sb", ()), ("sc", ()))))

    def test_equal(self):
        self.assertEqual(sample(), sample())
        self.assertNotEqual(sample(), sample().changed(book=book_of((), (), ())))
        self.assertNotEqual(sample(), sample().changed(plan=Plan("aa", ("aa",), ())))
        self.assertNotEqual(sample(), sample().changed(opening=((), ())))
        self.assertIs(sample() == SAMPLE, False)

    def test_lists(self):
        passed = listed(OPENING)
        play = Play(book_of(*BODIES), Plan(*PLAN), passed)
        self.assertEqual(play, sample())
        self.assertTrue(only_tuples(play.opening) and only_tuples(play.beginning))
        self.assertEqual(passed, listed(OPENING))


def with_line(at, line):
    return SAMPLE[:at] + (line,) + SAMPLE[at + 1:]


class PlayLinesTest(Case):
    def test_written_and_read_back(self):
        self.assertEqual(write_play(sample()), SAMPLE)
        self.assertEqual(read_play(SAMPLE), sample())
        self.assertEqual(read_play(list(SAMPLE)), sample())
        empty = sample().changed(opening=((), ()), plan=Plan("aa", ("aa",), ()))
        self.assertEqual(write_play(empty)[12:], ("opening", "first aa", "ends aa"))
        self.assertEqual(read_play(write_play(empty)), empty)
        for many in (1, 3):
            play = sample().changed(opening=(("fool", "king", "queen")[:many], (1, 0, 1)[:many]))
            self.assertEqual(len(write_play(play)[12].split(" ")), 1 + 2 * many)
            self.assertEqual(read_play(write_play(play)), play)
        four = Cast(tuple((name, ("j",)) for name in "abcd"))
        full = Play(Book(four, (("sa", ()),)), Plan("aa", ("aa",), ()), (("b", "d", "a", "c"), (1, 0, 0, 1)))
        self.assertEqual(write_play(full)[6], "opening b back d front a front c back")
        self.assertEqual(read_play(write_play(full)), full)

    def test_no_scenes_and_no_puppets_are_read(self):
        self.due(BadCast(-1), read_play, ("opening", "first aa", "ends aa"))
        self.due(BadLine(1, 0), read_play, ("opening", "ends aa"))

    def test_a_word_that_cannot_stand_there(self):
        for at, line in enumerate(SAMPLE):
            words = line.split(" ")
            for place in range(len(words)):
                for word in ("?", "", "Abc", "curtain", "ninelongs"):
                    spoilt = " ".join(words[:place] + [word] + words[place + 1:])
                    self.due(BadLine(at, place), read_play, with_line(at, spoilt))

    def test_a_word_too_much_or_too_few(self):
        for at in range(12, len(SAMPLE)):
            words = SAMPLE[at].split(" ")
            self.due(BadLine(at, len(words)), read_play, with_line(at, SAMPLE[at] + " "))
            self.due(BadLine(at, len(words)), read_play, with_line(at, SAMPLE[at] + " ?"))
            if words[0] in ("first", "call"):
                self.due(BadLine(at, len(words)), read_play, with_line(at, SAMPLE[at] + " aa"))
                for many in range(1, len(words)):
                    self.due(BadLine(at, many), read_play, with_line(at, " ".join(words[:many])))
        self.due(BadLine(12, 2), read_play, with_line(12, "opening king"))
        self.due(BadLine(12, 4), read_play, with_line(12, "opening king front queen"))
        self.due(BadLine(12, 2), read_play, with_line(12, "opening king queen"))
        self.due(BadLine(12, 1), read_play, with_line(12, "opening front king"))
        self.due(BadLine(14, 1), read_play, with_line(14, "ends"))

    def test_how_many_pairs(self):
        four = "opening" + " king front" * 4
        self.due(BadPicture((("king",) * 4, (0,) * 4)), read_play, with_line(12, four))
        self.due(BadLine(12, 9), read_play, with_line(12, four + " king front"))
        self.due(BadLine(12, 9), read_play, with_line(12, four + " king"))

    def test_how_many_ends(self):
        calls = tuple(f"call aa sa {name}" for name in named(40))
        head = SAMPLE[:14]
        forty = " ".join(named(39))
        self.assertEqual(len(read_play(head + (f"ends aa {forty}",) + calls[:39]).plan.ends), 40)
        self.due(TooMany("node"), read_play, head + (f"ends {forty} {named(40)[39]}",) + calls)
        self.due(BadLine(14, 41), read_play, head + (f"ends aa {forty} {named(40)[39]}",) + calls)

    def test_lines_in_their_order(self):
        self.due(BadLine(12, 0), read_play, SAMPLE[:12] + ("puppet page foot",) + SAMPLE[12:])
        self.due(BadLine(13, 0), read_play, SAMPLE[:13] + ("scene sd", "end") + SAMPLE[13:])
        self.due(BadLine(13, 0), read_play, SAMPLE[:13] + SAMPLE[14:])
        self.due(BadLine(14, 0), read_play, SAMPLE[:14] + SAMPLE[15:])
        self.due(BadLine(15, 0), read_play, SAMPLE[:15] + SAMPLE[14:])
        self.due(BadLine(16, 0), read_play, SAMPLE[:16] + ("first aa",))
        self.due(BadLine(18, 0), read_play, SAMPLE + ("",))
        self.due(BadLine(18, 0), read_play, SAMPLE + (None,))
        self.due(BadLine(4, 2), read_play, with_line(4, "call aa sa bb"))
        self.due(BadLine(15, 2), read_play, with_line(15, "call sa"))

    def test_lines_that_end_too_early(self):
        for many in range(15):
            self.due(BadLine(many, 0), read_play, SAMPLE[:many])
        self.due(Stray("aa"), read_play, SAMPLE[:14] + ("ends bb",))

    def test_objects_in_their_order(self):
        behind = ("opening king front king back", "first aa", "ends bb bb", "call aa sz bb")
        lines = with_line(0, "puppet queen fan")
        lines = lines[:7] + ("turn maid left",) + lines[8:12] + behind
        self.due(Twice("queen"), read_play, lines)
        lines = SAMPLE[:1] + lines[1:]
        self.due(Unknown("maid"), read_play, lines)
        lines = lines[:7] + SAMPLE[7:8] + lines[8:]
        self.due(BadPlan("ends"), read_play, lines)
        lines = lines[:14] + ("ends cc",) + lines[15:]
        self.due(Stray("aa"), read_play, lines)
        lines = lines[:14] + ("ends bb",) + lines[15:]
        self.due(Unknown("sz"), read_play, lines)
        lines = lines[:15] + SAMPLE[15:16]
        self.due(BadPicture((("king", "king"), (0, 1))), read_play, lines)
        self.due(BadLine(16, 0), read_play, lines + ("stay",))

    def test_deep_bodies_and_many_calls_are_read(self):
        deep = SAMPLE[:4] + ("repeat 1",) * 20 + ("rest",) + ("end",) * 20 + SAMPLE[5:]
        self.due(BadStatement("sa"), read_play, deep)
        calls = tuple(f"call aa sa {name}" for name in named(39)) * 4
        self.due(BadPlan("calls"), read_play, SAMPLE[:15] + calls)


if __name__ == "__main__":
    unittest.main()
