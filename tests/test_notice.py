"""Point 35: notice of scenes, windows, the noticed play, and the fewest notice."""

import itertools

from freestrung.called import Called
from freestrung.crews import Crew
from freestrung.errors import BadBook, BadMost, Spoilt, StrungError, TooMany, Unknown
from freestrung.known import Known
from freestrung.notice import Noticed, fewest_notice
from freestrung.plans import Plan
from freestrung.scenes import Book
from tests.helpers import ALONE, KQF, NO_NAMES, NO_ROWS, Case, fork_play, only_tuples, play_of
from tests.samples import sound_plays
from tests.test_called import KING, LEFT, TURNS

E = {"e": ()}
PLAIN = {"x": (), "y": ()}


def named(number):
    return "n" + "abcdefghijklmnopqrstuvwxyz"[number // 26] + "abcdefghijklmnopqrstuvwxyz"[number % 26]


def windows_at(plan, node, many):
    """All windows at a node, the shut ones first, told by trying all rows of calls."""
    found = []
    for length in range(many + 1):
        for row in itertools.product(range(len(plan)), repeat=length):
            here = node
            for call in row:
                here = plan[call][2] if here == plan[call][0] else None
            if here is not None and (length == many or plan.is_end(here)):
                found.append((node, row, length < many))
    return found


def noticed_model(play, many):
    """The meanings, and the calls as triples of numbers and scenes; errors as told."""
    plan, empty = play.plan, next(name for name in ("ha", "hb", "hc", "hd", "he", "hf") if name not in play.book)
    if len(play.book) == 6:
        raise BadBook("scenes")
    found, calls = [None], []
    for at, here in enumerate(found):
        if here is None:
            links = [(empty, window) for window in windows_at(plan, plan.first, many)]
        else:
            node, row, shut = here
            if row:
                scene, behind, last = plan[row[0]][1], plan[row[0]][2], plan[row[-1]][2]
                links = [(scene, (behind, row[1:], True))] if shut or plan.is_end(last) else []
                links += [] if shut else [(scene, (behind, row[1:] + (call,), False)) for call in plan.calls_at(last)]
            else:
                links = [(plan[call][1], (plan[call][2], (), False)) for call in plan.calls_at(node)] if many == 0 else []
        for scene, window in links:
            if window not in found:
                found.append(window)
                if len(found) > 40:
                    raise TooMany("node")
            calls.append((at, scene, found.index(window)))
    if len(calls) > 120:
        raise TooMany("call")
    return empty, tuple(found), calls


class NoticedTest(Case):
    def test_notice_of_no_scene(self):
        play = play_of(PLAIN, ["a x b", "b y a", "b x b"])
        noticed = Noticed(play, 0)
        self.assertEqual(noticed.meanings, (None, ("a", (), False), ("b", (), False)))
        self.assertEqual(noticed.named, ("naa", "nab", "nac"))
        self.assertEqual(noticed.play.plan, Plan("naa", ("nab",), (
            ("naa", "ha", "nab"), ("nab", "x", "nac"), ("nac", "y", "nab"), ("nac", "x", "nac"))))
        self.assertEqual(noticed.play.book.scenes, play.book.scenes + (("ha", ()),))
        self.assertEqual((noticed.play.opening, noticed.play.book.cast), (play.opening, play.book.cast))

    def test_notice_of_one_scene(self):
        play = play_of(PLAIN, ["a x b", "b y a", "b x b"])
        noticed = Noticed(play, 1)
        self.assertEqual(noticed.meanings, (
            None, ("a", (), True), ("a", (0,), False), ("b", (1,), False), ("b", (2,), False)))
        self.assertEqual(noticed.play.plan.ends, ("nab",))
        self.assertEqual(noticed.play.plan.calls, (
            ("naa", "ha", "nab"), ("naa", "ha", "nac"), ("nac", "x", "nad"), ("nac", "x", "nae"),
            ("nad", "y", "nab"), ("nad", "y", "nac"), ("nae", "x", "nad"), ("nae", "x", "nae")))
        self.assertEqual(noticed.meaning_of("nad"), ("b", (1,), False))
        self.assertIsNone(noticed.meaning_of("naa"))
        self.assertEqual((len(noticed), tuple(noticed)), (5, noticed.meanings))

    def test_shut_windows_come_first(self):
        play = play_of(PLAIN, ["a x a", "a y b"], ends=("a", "b"))
        self.assertEqual(Noticed(play, 2).meanings, (
            None, ("a", (), True), ("a", (0,), True), ("a", (1,), True), ("a", (0, 0), False), ("a", (0, 1), False),
            ("b", (), True)))

    def test_a_play_without_calls(self):
        play = play_of(E, [])
        for many in range(4):
            noticed = Noticed(play, many)
            self.assertEqual(noticed.meanings, (None, ("a", (), many > 0)))
            self.assertEqual(noticed.play.plan, Plan("naa", ("nab",), (("naa", "ha", "nab"),)))

    def test_against_all_rows(self):
        seen = set()
        for _, play, _ in sound_plays(130, 60, 1, "abc"):
            for many in range(4):
                try:
                    empty, found, calls = noticed_model(play, many)
                except StrungError as why:
                    self.due(why, Noticed, play, many)
                    seen.add((many, why.word))
                    continue
                noticed = Noticed(play, many)
                names = tuple(map(named, range(len(found))))
                ends = tuple(name for name, window in zip(names, found) if window is not None and not window[1]
                             and (window[2] or many == 0 and play.plan.is_end(window[0])))
                self.assertEqual((noticed.meanings, noticed.named), (found, names))
                self.assertEqual(noticed.play.plan, Plan("naa", ends, tuple((names[at], scene, names[to]) for at, scene, to in calls)))
                self.assertEqual(noticed.play.book.scenes[-1], (empty, ()))
                self.assertEqual(noticed.play.opening, play.opening)
                self.assertTrue(only_tuples(noticed.meanings))
                for name, window in zip(names, found):
                    self.assertEqual(noticed.meaning_of(name), window)
                seen.add((many, len(found) > 26))
        self.assertLessEqual({(3, "node"), (3, True), (0, False), (1, False)}, seen)

    def test_the_name_of_the_empty_scene(self):
        for names, name in ((("ha", "x"), "hb"), (("hb", "ha", "hc"), "hd"), (("hb", "x"), "ha"), (("ha", "hb", "hc", "hd", "he"), "hf")):
            play = play_of({name: () for name in names}, [f"a {names[-1]} a"])
            self.assertEqual(Noticed(play, 1).play.book.scenes[-1], (name, ()))

    def test_five_and_six_scenes(self):
        scenes = {"s" + letter: () for letter in "abcdef"}
        self.assertEqual(len(Noticed(play_of(dict(list(scenes.items())[:5]), ["a sa a"]), 3).play.book), 6)
        for many in range(4):
            self.due(BadBook("scenes"), Noticed, play_of(scenes, ["a sa a"]), many)
        self.due(BadMost(4), Noticed, play_of(scenes, ["a sa a"]), 4)
        # Too many nodes come behind.
        nodes = [one + other for one in "uv" for other in "abcdefghijklmnopqrstuvwxyz"][:40]
        long = play_of(scenes, [f"{one} sa {other}" for one, other in zip(nodes, nodes[1:])], first="ua", ends=nodes[-1:])
        self.due(BadBook("scenes"), Noticed, long, 0)

    def test_forty_nodes(self):
        letters = "abcdefghijklmnopqrstuvwxyz"
        for many, names in ((38, None), (39, None), (40, TooMany("node"))):
            nodes = [one + other for one in "uv" for other in letters][:many]
            play = play_of(E, [f"{one} e {other}" for one, other in zip(nodes, nodes[1:])], first="ua", ends=nodes[-1:])
            if names is None:
                self.assertEqual(len(Noticed(play, 0)), many + 1)
                self.assertEqual(Noticed(play, 0).named[-1], named(many))
            else:
                self.due(names, Noticed, play, 0)
        # With rows of several calls there are far too many.
        wide = play_of({"x": (), "y": (), "z": ()}, [f"a {scene} {one}" for scene in "xyz" for one in nodes[:39]] + [
            f"{one} x a" for one in nodes[:3]], ends=("a",) + tuple(nodes[3:39]), first="a")
        for many in (1, 2, 3):
            self.due(TooMany("node"), Noticed, wide, many)

    def test_a_hundred_and_twenty_calls(self):
        """With no notice the noticed play has one call more than the play itself."""
        scenes = {"x": (), "y": (), "z": (), "w": ()}
        nodes = "abcdef"
        calls = [f"{one} {scene} {other}" for scene in scenes for one in nodes for other in nodes]
        self.assertEqual(len(Noticed(play_of(scenes, calls[:119]), 0).play.plan), 120)
        self.due(TooMany("call"), Noticed, play_of(scenes, calls[:120]), 0)
        # Too many nodes go ahead.
        self.due(TooMany("node"), Noticed, play_of(scenes, calls[:120]), 1)

    def test_most(self):
        for thing in NO_ROWS + (-1, 4, True, False, "1", (1,), 10 ** 30):
            self.due_as_passed(BadMost, "most", thing, Noticed, play_of(E, []), thing)

    def test_unknown_nodes(self):
        noticed = Noticed(play_of(E, ["a e a"]), 1)
        for thing in NO_NAMES + ("a", "nad", "nzz", "naa "):
            self.due_as_passed(Unknown, "name", thing, noticed.meaning_of, thing)

    def test_a_play_that_is_not_sound(self):
        noticed = Noticed(play_of({"bad": LEFT}, ["a bad a"]), 0)
        self.due(Spoilt((0, 1)), Called, noticed.play, Crew(1))

    def test_what_is_played(self):
        """With no notice as much as called; with more no less; with any no more than known ahead."""
        told = [0, 0]
        for _, play, crew in sound_plays(131, 80, 2, "ab"):
            try:
                called, known = bool(Called(play, crew)), bool(Known(play, crew))
                can = []
                for many in range(4):
                    can.append(bool(Called(Noticed(play, many).play, crew)))
            except TooMany:
                pass
            if can:
                self.assertIs(can[0], called)
                self.assertEqual(can, sorted(can))
                self.assertLessEqual(can[-1], known)
                told[called] += 1
        self.assertGreater(min(told), 5)


class FewestTest(Case):
    def test_never(self):
        play = play_of({"l": LEFT, "e": ()}, ["a e b", "b l a"], opening=KING)
        self.assertEqual(fewest_notice(play, Crew(1, beats=0)), ("never", (0, 1)))
        self.assertEqual(fewest_notice(play, Crew(1)), ("notice", 0))

    def test_each_notice(self):
        """So many rests ahead, one bar at a time: the longer the way, the more notice is needed."""
        crew = Crew(**ALONE)
        self.assertEqual(fewest_notice(fork_play(1), crew), ("notice", 1))
        self.assertEqual(fewest_notice(fork_play(2), crew), ("notice", 1))
        both = Crew(1, reach=1, beats=2, bears=0, winds=0)
        self.assertEqual(fewest_notice(fork_play(1), both), ("notice", 0))

    def test_a_far_fork(self):
        crew = Crew(**ALONE)
        for many, notice in ((2, ("notice", 2)), (3, ("notice", 3)), (4, ("beyond", 3))):
            play = far_fork(many)
            self.assertTrue(Known(play, crew))
            self.assertEqual(fewest_notice(play, crew), notice)

    def test_the_definition(self):
        seen = set()
        for _, play, crew in sound_plays(132, 120, 2, "ab"):
            try:
                told = fewest_notice(play, crew)
            except (TooMany, BadBook) as why:
                seen.add(why.word)
                continue
            known = Known(play, crew)
            if not known:
                self.assertEqual(told, ("never", known.row))
            else:
                can = [bool(Called(Noticed(play, many).play, crew)) for many in range(told[1] + 1)]
                self.assertEqual(told[0], "notice" if can[-1] else "beyond")
                self.assertEqual(can, [False] * told[1] + [told[0] == "notice"])
            seen.add(told[0])
        self.assertLessEqual({"never", "notice"}, seen)

    def test_errors_as_far_as_they_are_asked(self):
        scenes = {"s" + letter: () for letter in "abcdef"}
        self.due(BadBook("scenes"), fewest_notice, play_of(scenes, ["a sa a"]), Crew(1))
        never = play_of({**scenes, "sb": (("if", ("on", "king"), LEFT, ()),)}, ["a sb a"], opening=KING)
        self.assertEqual(fewest_notice(never, Crew(1, beats=0)), ("never", (0,)))
        self.due(TooMany("standing"), fewest_notice, play_of({"t": TURNS}, ["a t a"], opening=KQF), Crew(3, beats=3, winds=3))
        self.due(Spoilt((0,)), fewest_notice, play_of({"bad": LEFT}, ["a bad a"]), Crew(1))
        letters = "abcdefghijklmnopqrstuvwxyz"
        nodes = [one + other for one in "uv" for other in letters][:40]
        chain = play_of(E, [f"{one} e {other}" for one, other in zip(nodes, nodes[1:])], first="ua", ends=nodes[-1:])
        self.due(TooMany("node"), fewest_notice, chain, Crew(1))


def far_fork(many):
    """The fork at which a row of scenes without deeds stands between the rest and the passes."""
    play = fork_play(1)
    names = ["ua"] + [f"w{letter}" for letter in "abcdefg"[:many]]
    calls = [("ua", "r", "wa")] + [(one, "none", other) for one, other in zip(names[1:], names[2:])]
    calls += [(names[-1], scene, "z") for scene in ("kq", "fg")]
    book = Book(play.book.cast, play.book.scenes + (("none", ()),))
    return play.changed(book=book, plan=Plan("ua", ("z",), calls))
