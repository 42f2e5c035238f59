"""Points 38 and 39: prompt books, and prompters."""

import random

from freestrung.arena import answers
from freestrung.called import Called
from freestrung.crews import Crew
from freestrung.errors import BadCall, BadLine, BadRow, NotThere, Spoilt
from freestrung.judges import judge_crew
from freestrung.prompts import Prompter, read_prompt, write_prompt
from freestrung.standings import standing_of
from tests.helpers import KQF, NO_ROWS, STRONG, Case, listed, only_tuples, play_of, winding_play
from tests.linemodel import PROMPT, first_wrong, spoilt_lines
from tests.test_called import HOLD, KING, LEFT, TURNED, king, small_games

ROW = (("king", "queen"), (0, 1), (0, -3), ((1, 2, 1, -2, -1), (1, 2, -1)), (("king", "queen"),))
BOTH = (("king",), ("queen",))
TABLE = (
    ("a", ROW, ((), ((BOTH, "behind", "before"), ((), "still", "left"), ((("queen", "king"),), "along", "right")))),
    ("b", ((), (), (), (), ()), ()),
    ("b", (("fool",), (1,), (3,), ((1,),), ()), ((((("fool",),), None, "behind"), ((), None, None)),)),
)
LINES = (
    "at a", "row king front 0 queen back -3", "lie 1,2,1,-2,-1 1,2,-1", "hold king+queen", "play", "play",
    "do behind before king queen", "do still left", "do along right queen+king", "at b", "row", "lie", "hold", "at b",
    "row fool back 3", "lie 1", "hold", "play", "do - behind fool", "do - -", "curtain",
)
WORDS = (
    "", "at", "row", "lie", "hold", "play", "do", "curtain", "king", "queen", "a", "b", "front", "back", "0", "1", "-1", "3",
    "-3", "4", "-4", "5", "-0", "01", "+1", "1,2", "1,-5", "1,0", ",1", "1,", "1,,2", "king+queen", "king+king", "king+", "+king",
    "king+queen+fool", "before", "behind", "along", "still", "left", "right", "-", "any", "ninelongs", "King", "end", "--", "1.0",
)


class WriteTest(Case):
    def test_the_lines_of_a_table(self):
        self.assertEqual(write_prompt(TABLE), LINES)
        self.assertEqual(self.same_with_lists(write_prompt, TABLE), LINES)
        self.assertEqual(write_prompt(()), ("curtain",))

    def test_what_is_written_is_read(self):
        self.assertEqual(read_prompt(LINES), TABLE)
        self.assertEqual(read_prompt(list(LINES)), TABLE)
        self.assertTrue(only_tuples(read_prompt(list(LINES))))
        self.assertEqual(read_prompt(("curtain",)), ())

    def test_tables_that_are_told(self):
        many = 0
        for _, play, crew, called in small_games(101, 80):
            if called:
                lines = write_prompt(called.table)
                self.assertEqual(read_prompt(lines), called.table)
                self.assertTrue(all(isinstance(line, str) for line in lines))
                many += len(lines)
        self.assertGreater(many, 500)

    def test_many_lines(self):
        row = ("a", king(), tuple(((HOLD, "along", "left"),) * 40 for _ in range(96)))
        lines = write_prompt((row,))
        self.assertEqual(len(lines), 4 + 96 * 41 + 1)
        self.assertEqual(read_prompt(lines), (row,))
        long = write_prompt((("a", king(), (((HOLD, "along", "left"),) * 3994,)),))
        self.assertEqual(len(long), 4000)
        self.assertEqual(write_prompt(read_prompt(long)), long)


class ReadTest(Case):
    def bad(self, line, word, lines):
        self.due(BadLine(line, word), read_prompt, lines)
        self.due(BadLine(line, word), read_prompt, tuple(lines))

    def with_line(self, number, line):
        return list(LINES[:number]) + [line] + list(LINES[number + 1:])

    def test_each_word_spoilt(self):
        for number, line in enumerate(LINES):
            words = line.split(" ")
            for place in range(len(words)):
                for word in ("", "Bad", "1e", "sixteens,", "?"):
                    self.bad(number, place, self.with_line(number, " ".join(words[:place] + [word] + words[place + 1:])))
            self.bad(number, len(words), self.with_line(number, line + " "))
            self.bad(number, 0, self.with_line(number, " " + line))
            self.bad(number, 1, self.with_line(number, words[0] + "  " + " ".join(words[1:])))
            for thing in (None, 7, True, ("at", "a"), ["at", "a"], b"at a"):
                self.bad(number, 0, self.with_line(number, thing))

    def test_lines_that_end_too_early(self):
        for number, line, word in ((0, "at", 1), (1, "row king", 2), (1, "row king front", 3), (1, "row king front 0 queen", 5),
                                   (6, "do", 1), (6, "do behind", 2)):
            self.bad(number, word, self.with_line(number, line))

    def test_words_too_much(self):
        for number, line in ((0, "at a a"), (1, "row" + " king front 0" * 4 + " king"), (2, "lie" + " 1" * 5),
                             (3, "hold" + " king" * 5), (4, "play a"), (6, "do - -" + " king" * 5), (20, "curtain a")):
            self.bad(number, len(line.split(" ")) - 1, self.with_line(number, line))
        for number, line in ((1, "row" + " king front 0" * 4), (2, "lie" + " 1" * 4), (3, "hold" + " king" * 4),
                             (6, "do - -" + " king+king" * 4)):
            read_prompt(self.with_line(number, line))

    def test_words_of_a_lie(self):
        for word in ("1", "-4", "4,-4", ",".join(["1"] * 64), "1,-1", "2,2"):
            self.assertEqual(read_prompt(self.with_line(2, "lie " + word))[0][1][3],
                             (tuple(map(int, word.split(","))),))
        for word in (",".join(["1"] * 65), "5", "-5", "0", "1,0", "-0", "01", "+1", "1,", ",1", "1,,1", "1;2", "1,a", ","):
            self.bad(2, 1, self.with_line(2, "lie " + word))
            self.bad(2, 2, self.with_line(2, "lie 1 " + word))

    def test_winds(self):
        for wind in range(-3, 4):
            self.assertEqual(read_prompt(self.with_line(1, f"row king front {wind}"))[0][1][2], (wind,))
        for word in ("4", "-4", "-0", "+1", "00", "1.", "10", "front", "-"):
            self.bad(1, 3, self.with_line(1, f"row king front {word}"))

    def test_groups(self):
        for word, group in (("king", ("king",)), ("queen+king", ("queen", "king")), ("king+king", ("king", "king"))):
            self.assertEqual(read_prompt(self.with_line(3, "hold " + word))[0][1][4], (group,))
            self.assertEqual(read_prompt(self.with_line(6, "do - - " + word))[0][2][1][0], ((group,), None, None))
        for word in ("king+", "+king", "+", "king+queen+fool", "king++queen", "king,queen", "pass", "king+pass", "king-queen"):
            self.bad(3, 1, self.with_line(3, "hold " + word))
            self.bad(6, 3, self.with_line(6, "do - - " + word))

    def test_ways(self):
        tops, showns = ("before", "behind", "along", "still", "-"), ("before", "behind", "left", "right", "-")
        for top in tops:
            for shown in showns:
                told = read_prompt(self.with_line(6, f"do {top} {shown}"))[0][2][1][0]
                self.assertEqual(told, ((), None if top == "-" else top, None if shown == "-" else shown))
        for word in ("left", "right", "any", "front", "None"):
            self.bad(6, 1, self.with_line(6, f"do {word} -"))
        for word in ("along", "still", "any", "on"):
            self.bad(6, 2, self.with_line(6, f"do - {word}"))

    def test_nothing_else_is_judged(self):
        """Numbers of words, puppets that are not there, lies that are none, rows that are no rows."""
        lines = ("at a", "row king front 0 king back 1", "lie 1 1 1", "hold queen queen", "play", "do along - fool", "curtain")
        self.assertEqual(read_prompt(lines), (
            ("a", (("king", "king"), (0, 1), (0, 1), ((1,),) * 3, (("queen",),) * 2),
             ((((("fool",),), "along", None),),)),))

    def test_lines_in_a_wrong_order(self):
        self.bad(0, 0, ())
        self.bad(0, 0, [])
        self.bad(0, 0, [""])
        for many in range(len(LINES)):
            self.bad(many, 0, LINES[:many])
        self.bad(21, 0, LINES + ("at a",))
        self.bad(21, 0, LINES + ("curtain",))
        self.bad(21, 0, LINES + (None,))
        for number in (0, 1, 2, 3):
            self.bad(number, 0, LINES[:number] + LINES[number + 1:])
        self.bad(5, 0, LINES[:4] + ("play", "row") + LINES[5:])
        self.bad(4, 0, LINES[:4] + ("do - -",) + LINES[5:])

    def test_against_a_plain_reader(self):
        rng = random.Random(38)
        wrong = 0
        for _ in range(3000):
            lines = spoilt_lines(rng, LINES, WORDS)
            if rng.random() < 0.3:
                lines = spoilt_lines(rng, lines, WORDS) if all(isinstance(line, str) for line in lines) and lines else lines
            told = first_wrong(PROMPT, "start", lines)
            if told is None:
                self.assertEqual(list(write_prompt(read_prompt(lines))), lines)
            else:
                self.bad(*told, lines)
                wrong += 1
        self.assertGreater(wrong, 1500)
        self.assertLess(wrong, 2900)


class PrompterTest(Case):
    def play(self):
        return play_of(TURNED, ["a l b", "b r a", "b e b"], opening=KING)

    def table(self):
        along = [((HOLD, "along", way),) for way in ("left", "right")]
        return (("a", king(hold=()), (along[0],)), ("b", king(1), (along[1], ())), ("a", king(), (along[0],)))

    def test_answers(self):
        table = self.table()
        for rows in (table, listed(table)):
            prompter = Prompter(self.play(), Crew(1), rows)
            self.assertEqual((len(prompter), tuple(prompter)), (3, table))
            self.assertTrue(only_tuples(tuple(prompter)))
            self.assertEqual(prompter(("b", king(1)), 1), ((HOLD, "along", "right"),))
            self.assertEqual(prompter(["b", listed(king(1))], 2), ())
            self.assertEqual(prompter(("a", king(hold=())), 0), ((HOLD, "along", "left"),))

    def test_the_first_row_counts(self):
        table = self.table()
        still = ("b", king(1, 1), (((HOLD, "still", "right"),), ()))
        other = ("a", king(), (((HOLD, "still", "left"),),))
        prompter = Prompter(self.play(), Crew(1), table + (still, other))
        self.assertEqual(prompter(("a", king()), 0), ((HOLD, "along", "left"),))
        prompter = Prompter(self.play(), Crew(1), (other,) + table + (still,))
        self.assertEqual(prompter(("a", king()), 0), ((HOLD, "still", "left"),))
        self.assertEqual(len(prompter), 5)

    def test_in(self):
        prompter = Prompter(self.play(), Crew(1), self.table())
        self.assertIn(("b", king(1)), prompter)
        self.assertIn(["b", listed(king(1))], prompter)
        for thing in NO_ROWS + (("b", king(0)), ("b",), ("b", king(1), ()), (["b"], king(1)), ("b", None), ("b", king(True)),
                                ("b", king(1)[:4]), ("c", king(1)), ("b", king(1, 1))):
            self.assertNotIn(thing, prompter)
            self.due_as_passed(NotThere, "position", thing, prompter, thing, 1)
            self.due_as_passed(NotThere, "position", thing, prompter, thing, None)

    def test_calls(self):
        prompter = Prompter(self.play(), Crew(1), self.table())
        for thing in (0, 3, -1, None, True, "1", (1,), 10 ** 30):
            self.due_as_passed(BadCall, "number", thing, prompter, ("b", king(1)), thing)

    def test_tables_that_are_told(self):
        for _, play, crew, called in small_games(102, 60):
            if called:
                prompter = Prompter(play, crew, called.table)
                for node, standing, playings in called.table:
                    self.assertIn((node, standing), prompter)
                    for call, playing in zip(play.plan.calls_at(node), playings):
                        self.assertEqual(prompter((node, standing), call), playing)
                        self.assertIn(playing, [told for _, told in answers(play, crew, (node, standing), call)])

    def test_tables_that_are_not_right(self):
        table = self.table()
        for rows in ((), table[1:], table[:2], table + (None,), table[:1] + (("b", king(1), (None, ())),) + table[2:]):
            number = judge_crew(self.play(), Crew(1), rows)
            self.assertIsNotNone(number)
            self.due(BadRow(number), Prompter, self.play(), Crew(1), rows)
        self.due(BadRow(-1), Prompter, self.play(), Crew(1), ())
        self.due(Spoilt((0,)), Prompter, play_of({"bad": LEFT}, ["a bad a"]), Crew(1), ())

    def test_a_large_table(self):
        play, crew = winding_play(12, 7), Crew(**STRONG)
        prompter = Prompter(play, crew, read_prompt(write_prompt(Called(play, crew).table)))
        self.assertEqual(len(prompter), 19)
        self.assertEqual(prompter((play.plan.first, standing_of(KQF)), 0), ())
