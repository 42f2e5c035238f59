"""Point 40: journals, how they are read, and torn ones."""

import random

from freestrung.crews import Crew
from freestrung.errors import (
    BadBook, BadCall, BadCast, BadLine, BadPicture, BadPlan, NotDue, Ring, Spoilt, Stray, StrungError, Torn, Twice, Unknown,
    Unplayable,
)
from freestrung.handlings import handlings
from freestrung.journal import read_journal, taken_up, write_journal
from freestrung.nights import Night
from freestrung.playtext import write_play
from freestrung.standings import is_free_standing
from tests.helpers import Case
from tests.linemodel import JOURNAL, first_wrong, spoilt_lines
from tests.samples import sound_plays
from tests.test_nights import BACK, PLAY, duel, told

WORDS = ("", "call", "do", "curtain", "crew", "opening", "first", "ends", "king", "a", "e", "p", "front", "0", "1", "3", "4", "60",
         "61", "119", "120", "-1", "01", "-0", "before", "behind", "-", "along", "king+queen", "Bad", "scene", "end", "rest", "turn")


def evening():
    """A night on which much was done."""
    night = Night(duel(), Crew(2, beats=2))
    night.call(2)
    night.play_call(0, PLAY)
    night.play_call(1, BACK)
    night.curtain()
    return night


def random_night(rng, play, crew):
    """A night that is played for a while; it can end amid a call."""
    night = Night(play, crew)
    for _ in range(rng.randint(0, 12)):
        if night.due is not None:
            ways = list(handlings(crew, night.at[1], night.due))
            if not ways:
                break
            night.do(rng.choice(ways))
        elif play.plan.is_end(night.at[0]) and is_free_standing(night.at[1]) and rng.random() < 0.2:
            night.curtain()
            break
        elif play.plan.calls_at(night.at[0]):
            night.call(rng.choice(play.plan.calls_at(night.at[0])))
    return night


class JournalTest(Case):
    def test_the_lines(self):
        lines = write_journal(evening())
        head = write_play(duel())
        self.assertEqual(lines[:len(head)], head)
        self.assertEqual(lines[len(head):], (
            "crew 2 1 2 6 1", "call 2", "call 0", "do behind behind king queen", "do along left king queen", "do - - king queen",
            "call 1", "do before before king queen", "do along right king queen", "do - -", "curtain"))

    def test_what_is_written_is_read(self):
        lines = write_journal(evening())
        for passed in (lines, list(lines)):
            night = read_journal(passed)
            self.assertEqual(night, evening())
            self.assertEqual(told(night)[2:], told(evening())[2:])
            self.assertEqual(write_journal(night), lines)
            self.assertEqual(passed, type(passed)(lines))

    def test_nights_at_any_time(self):
        seen = set()
        for rng, play, crew in sound_plays(107, 120):
            night = random_night(rng, play, crew)
            lines = write_journal(night)
            again = read_journal(lines)
            self.assertEqual(again, night)
            self.assertEqual(told(again)[2:], told(night)[2:])
            self.assertEqual((again.play, again.crew), (play, crew))
            taken, number = taken_up(list(lines))
            self.assertEqual((taken, number), (night, len(lines)))
            seen.add((night.due is not None, night.over))
        self.assertEqual(seen, {(True, False), (False, False), (False, True)})

    def test_the_numbers_of_the_crew(self):
        head = list(write_play(duel()))
        for numbers in ((1, 0, 0, 0, 0), (4, 3, 3, 60, 3), (2, 1, 2, 59, 1)):
            self.assertEqual(read_journal(head + ["crew " + " ".join(map(str, numbers))]).crew.numbers, numbers)
        at = len(head)
        for line, word in (("crew", 1), ("crew 0 1 1 6 1", 1), ("crew 5 1 1 6 1", 1), ("crew 1 4 1 6 1", 2), ("crew 1 1 4 6 1", 3),
                           ("crew 1 1 1 61 1", 4), ("crew 1 1 1 06 1", 4), ("crew 1 1 1 6 4", 5), ("crew 1 1 1 6", 5),
                           ("crew 1 1 1 6 1 1", 6), ("crew -1 1 1 6 1", 1), ("crew 1 1 1 -0 1", 4), ("crew 01 1 1 6 1", 1)):
            self.due(BadLine(at, word), read_journal, head + [line])
            self.due(Torn(at), taken_up, head + [line])

    def test_numbers_of_calls(self):
        head = list(write_play(duel())) + ["crew 2 1 2 6 1"]
        at = len(head)
        for number in (0, 9, 10, 99, 100, 119):
            if number not in (0, 2):
                self.due(BadCall(number), read_journal, head + [f"call {number}"])
                self.assertEqual(taken_up(head + [f"call {number}"]), (Night(duel(), Crew(2, beats=2)), at))
        for word in ("120", "-1", "00", "01", "1.", "", "a", "+1", "1000", "-0"):
            self.due(BadLine(at, 1), read_journal, head + [f"call {word}"])
        self.due(BadLine(at, 1), read_journal, head + ["call"])
        self.due(BadLine(at, 2), read_journal, head + ["call 1 1"])

    def test_the_groups_of_a_handling(self):
        head = list(write_play(duel())) + ["crew 2 1 2 6 1", "call 0"]
        at = len(head)
        self.assertEqual(read_journal(head + ["do behind behind king"]).log[1], ("do", ((("king",),), "behind", "behind")))
        together = read_journal(head + ["do before behind king+queen"])
        self.assertEqual(together.log[1], ("do", ((("king", "queen"),), "before", "behind")))
        # A group is taken as it is written, and the night judges it.
        for word in ("queen+king", "king+king", "king queen+king", "queen king"):
            self.due(Unplayable(0, "form"), read_journal, head + [f"do behind behind {word}"])
        self.due(BadLine(at, 3), read_journal, head + ["do behind behind king+queen+fool"])
        self.due(BadLine(at, 7), read_journal, head + ["do behind behind a b c d e"])

    def test_a_line_that_is_bad_goes_ahead(self):
        lines = list(write_journal(evening()))
        for spoilt in (["puppet king hand"] + lines + ["Bad"], lines + ["call 5", "do"], lines[:-4] + ["curtain", "curtain "]):
            with self.assertRaises(BadLine):
                read_journal(spoilt)

    def test_errors_of_the_objects(self):
        lines = list(write_journal(evening()))

        def with_line(old, *new):
            at = lines.index(old)
            return lines[:at] + list(new) + lines[at + 1:]

        for spoilt, error in (
                (with_line("puppet queen fan", "puppet king fan"), Twice("king")),
                (with_line("puppet king crown hand"), Unknown("king")),
                (lines[3:], BadCast(-1)),
                (with_line("scene e", "scene p"), Twice("p")),
                (with_line("rest", "call q"), Ring("q")),
                (with_line("opening king front queen front", "opening king front king front"), BadPicture((("king", "king"), (0, 0)))),
                (with_line("ends a c", "ends a a"), BadPlan("ends")),
                (with_line("first a", "first c"), Stray("a")),
                (with_line("call a p b", "call a p b", "call a p b"), BadPlan("calls")),
                (with_line("call a e a", "call a x a"), Unknown("x")),
                (with_line("opening king front queen front", "opening queen front king front"), Spoilt((0,)))):
            self.due(error, read_journal, spoilt)
            self.due(error, taken_up, spoilt)
        head = write_play(duel())
        no_scenes = [line for line in head if line.startswith(("puppet", "opening", "first", "ends", "call a p"))]
        self.due(BadBook("scenes"), read_journal, no_scenes + ["crew 1 1 1 1 1"])

    def test_errors_of_the_entries(self):
        lines = list(write_journal(evening()))
        for spoilt, error in (
                (lines + ["curtain"], NotDue("curtain")), (lines + ["call 0"], NotDue("call")), (lines + ["do - -"], NotDue("do")),
                (lines[:-5] + ["curtain"], NotDue("curtain")), (lines[:-4] + lines[-3:], Unplayable(0, "form")),
                (lines[:-3] + ["do along left king queen"], Unplayable(1, "script"))):
            self.due(error, read_journal, spoilt)

    def test_against_a_plain_reader(self):
        rng = random.Random(40)
        lines = write_journal(evening())
        at = lines.index("opening king front queen front")
        wrong = 0
        for _ in range(1500):
            spoilt = spoilt_lines(rng, lines[at:], WORDS)
            found = first_wrong(JOURNAL, "opening", spoilt)
            whole = list(lines[:at]) + spoilt
            if found is not None and not str((spoilt + [""])[0]).startswith(("scene", "puppet")):
                self.due(BadLine(at + found[0], found[1]), read_journal, whole)
                wrong += 1
                self.torn(whole, at, found)
        self.assertGreater(wrong, 500)

    def torn(self, whole, at, found):
        """What a torn journal tells, when its first wrong word stands in this line behind the scenes."""
        crew = [number for number, line in enumerate(whole) if isinstance(line, str) and line.startswith("crew ")]
        if not crew or crew[0] >= at + found[0]:
            raised = self.due(Torn(at + found[0]), taken_up, whole)
            self.due(BadLine(at + found[0], found[1]), self.raise_again, raised.__cause__)
        else:
            try:
                _, number = taken_up(whole)
            except StrungError as why:
                self.assertNotIsInstance(why, (Torn, BadLine))
                return
            self.assertLessEqual(number, at + found[0])

    def raise_again(self, error):
        raise error


class TornTest(Case):
    def test_torn_at_each_line(self):
        night = evening()
        lines = write_journal(night)
        head = lines.index("crew 2 1 2 6 1") + 1
        for many in range(len(lines) + 1):
            for rest in ((), ("Bad",), ("",), (None,), ("do - - a b c d e",), ("puppet king hand",)):
                torn = lines[:many] + rest
                if many < head:
                    if not rest or rest == ("Bad",):
                        raised = self.due(Torn(many), taken_up, torn)
                        self.assertIsInstance(raised.__cause__, BadLine)
                        self.assertEqual((raised.__cause__.line, raised.__cause__.word), (many, 0))
                    continue
                taken, number = taken_up(torn)
                self.assertEqual(number, many)
                self.assertEqual(taken.log, night.log[:many - head])
                self.assertEqual(write_journal(taken), lines[:many])

    def test_what_comes_behind_a_line_that_is_bad(self):
        lines = write_journal(evening())
        head = lines.index("crew 2 1 2 6 1") + 1
        for number in range(head, len(lines)):
            taken, many = taken_up(lines[:number] + ("call 1 ",) + lines[number:])
            self.assertEqual((taken.log, many), (evening().log[:number - head], number))

    def test_what_the_night_refuses(self):
        lines = write_journal(evening())
        for entry in ("curtain", "call 0", "do - -", "call 119"):
            self.assertEqual(taken_up(lines + (entry, "curtain")), (evening(), len(lines)))
        head = lines.index("crew 2 1 2 6 1") + 1
        for entry in ("call 1", "call 3", "do - -", "do before before"):
            taken, many = taken_up(list(lines[:head]) + [entry] + list(lines[head:]))
            self.assertEqual((taken, many), (Night(duel(), Crew(2, beats=2)), head))
        amid = lines[:head + 2] + ("call 0",) + lines[head + 2:]
        taken, many = taken_up(amid)
        self.assertEqual((taken.log, many), (evening().log[:2], head + 2))
        self.assertEqual(taken.due, ("pass", "king", "queen", "right", "any"))

    def test_the_heading_alone(self):
        night = Night(duel(), Crew(1))
        lines = write_journal(night)
        self.assertEqual(read_journal(lines), night)
        self.assertEqual(taken_up(lines), (night, len(lines)))

    def test_nothing(self):
        for lines in ((), []):
            self.due(BadLine(0, 0), read_journal, lines)
            raised = self.due(Torn(0), taken_up, lines)
            self.assertIsInstance(raised.__cause__, BadLine)

    def test_the_cause_bears_the_word(self):
        lines = list(write_journal(evening()))
        at = lines.index("first a")
        lines[at] = "first a b"
        raised = self.due(Torn(at), taken_up, lines)
        self.assertEqual((raised.__cause__.line, raised.__cause__.word), (at, 2))
        self.assertIs(raised.__cause__.__class__, BadLine)

    def test_a_long_journal(self):
        night = Night(duel(), Crew(2, beats=2))
        lines = list(write_journal(night))
        night.call(0)
        more = ["call 0", "do behind behind king queen", "do along left king queen", "do - - king queen", "call 1",
                "do before before king queen", "do along right king queen", "do - -"]
        lines += more * ((4000 - len(lines)) // 8)
        lines += ["call 2"] * (4000 - len(lines))
        self.assertEqual(len(lines), 4000)
        again = read_journal(lines)
        self.assertEqual(again.at[0], "a")
        self.assertEqual(len(again.log), 4000 - len(write_journal(Night(duel(), Crew(2, beats=2)))))
        self.assertEqual(taken_up(lines)[1], 4000)
