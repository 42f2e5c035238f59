"""Point 12: shows of plays, spots, lots, plays that show the same, counts of shows."""

import random

from freestrung.errors import BadMost, Spoilt, TooMany
from freestrung.seen import shows_in
from freestrung.showalike import PlayAlike, has_show, lot_of, show_counts
from tests.helpers import KQF, WIDE_SCENES, Case, listed, only_tuples, play_of, wide_calls

KING = (("king",), (0,))
BACK = (("king",), (1,))
LEFT = ("turn", "king", "left")
RIGHT = ("turn", "king", "right")
ANY = ("turn", "king", "any")
HAND = ("move", "king", "hand")
CROWN = ("move", "king", "crown")


def king_play(scenes, calls, ends=("a",)):
    return play_of(scenes, calls, ends=ends, opening=KING)


def evenings_of(play, most):
    """All evenings of at most so many calls."""
    rows, found = [()], []
    for _ in range(most + 1):
        found += [row for row in rows if play.plan.is_evening(row)]
        rows = [row + (call,) for row in rows for call in play.plan.calls_at(play.plan.node_behind(row))]
    return found


def all_shows(play, most):
    """All shows of at most so many events of a play in which each call shows something."""
    return {show for row in evenings_of(play, most) for show in shows_in(play, row) if len(show) <= most}


def least(shows):
    return min(shows, key=lambda show: (len(show), show), default=None)


def random_play(rng):
    """A sound play in which each call shows something, of the king alone."""
    bodies = ((ANY,), (LEFT,), (RIGHT,), (HAND, ANY), (ANY, HAND, ("turn", "king", "right")), (LEFT, ANY), (LEFT, CROWN),
              (("if", ("front", "king"), (HAND,), (ANY,)),), (("if", ("front", "king"), (HAND, LEFT), (RIGHT,)),),
              (("exit", "king", "any"), ("enter", "king", "left")))
    scenes = {"s" + letter: rng.choice(bodies) for letter in "abc"}
    calls = {f"{one} s{rng.choice('abc')} {two}" for one in "ab" for two in "ab" if rng.random() < 0.6}
    calls |= {"a sa b", "b sb a"}
    return king_play(scenes, sorted(calls), ends=rng.choice((("a",), ("b",), ("a", "b"))))


class LotTest(Case):
    def setUp(self):
        self.play = king_play({"sa": (HAND, ANY), "sb": (LEFT,), "sc": (), "sd": (("rest",),)},
                              ["a sa a", "a sb b", "b sc c", "c sd b"], ends=("c",))

    def told(self, events):
        lot = lot_of(self.play, events)
        self.assertEqual(lot_of(self.play, listed(events)), lot)
        self.assertIs(has_show(self.play, events), any(node == "c" and due == () for node, _, due in lot))
        self.assertIs(has_show(self.play, listed(events)), has_show(self.play, events))
        self.assertTrue(only_tuples(lot))
        self.assertEqual(lot, tuple(sorted(set(lot))))
        return lot

    def test_the_lot_of_no_events(self):
        self.assertEqual(self.told(()), (("a", KING, ()), ("a", BACK, (HAND, ANY)), ("b", BACK, (LEFT,))))

    def test_lots_behind_events(self):
        self.assertEqual(self.told((HAND,)), (("a", BACK, (ANY,)),))
        self.assertEqual(self.told((HAND, LEFT)), tuple(sorted(
            (("a", BACK, ()), ("a", KING, (ANY,)), ("b", KING, (LEFT,))))))
        self.assertEqual(self.told((HAND, LEFT)), self.told((HAND, RIGHT)))
        self.assertEqual(self.told((LEFT,)), (("b", BACK, ()), ("c", BACK, ())))
        self.assertEqual(self.told((HAND, RIGHT, LEFT)), tuple(sorted(
            (("a", KING, ()), ("a", BACK, (HAND, ANY)), ("b", BACK, (LEFT,)), ("b", KING, ()), ("c", KING, ())))))

    def test_rows_that_cannot_be_seen(self):
        for events in ((RIGHT,), (CROWN,), (ANY,), (HAND, ANY), (LEFT, LEFT), (HAND, HAND), (("exit", "king", "any"),)):
            self.assertEqual(self.told(events), ())
            self.assertEqual(self.told(events + (LEFT,)), ())
        self.assertEqual(self.told((HAND, ANY, LEFT)), ())

    def test_shows(self):
        for events, told in (((), False), ((LEFT,), True), ((HAND,), False), ((HAND, RIGHT, LEFT), True),
                             ((HAND, RIGHT, ANY), False), ((HAND, LEFT), False), ((HAND, LEFT, RIGHT, LEFT), True)):
            self.assertIs(has_show(self.play, events), told)

    def test_each_any(self):
        play = play_of({"sa": (("pass", "king", "right", "any"), ("exit", "king", "any"))}, ["a sa b"], ends=("b",),
                       opening=(("king", "queen"), (0, 0)))
        for word in ("before", "behind", "any"):
            for way in ("before", "behind", "any"):
                events = (("pass", "king", "queen", word), ("exit", "king", way))
                self.assertIs(has_show(play, events), "any" not in (word, way))

    def test_errors(self):
        unsound = play_of({"sa": (("exit", "king", "any"),)}, ["a sa a"], opening=KING)
        wide = play_of(WIDE_SCENES, wide_calls(21, 1), first="ta", ends=("pa",), opening=KQF)
        for call in (lot_of, has_show):
            self.due(Spoilt((0, 0)), call, unsound, ())
            self.due(TooMany("picture"), call, wide, ())


class PlayAlikeTest(Case):
    def told(self, one, two):
        told = PlayAlike(one, two)
        back = PlayAlike(two, one)
        self.assertEqual(back.row, told.row)
        self.assertEqual(back.which, None if told.which is None else 1 - told.which)
        self.assertIs(bool(told), told.row is None)
        self.assertIs(bool(back), bool(told))
        return told.row, told.which

    def test_the_same_shows(self):
        one = king_play({"sa": (HAND, ANY)}, ["a sa a"])
        # A show of two calls, then of one each; and calls that show nothing between.
        two = king_play({"sa": (HAND,), "sb": (ANY,), "sc": (("rest",),)},
                        ["a sc b", "b sa c", "c sb d", "d sc a"], ends=("a",))
        self.assertEqual(self.told(one, two), (None, None))
        self.assertEqual(self.told(one, one), (None, None))
        both = king_play({"sa": (HAND, LEFT), "sb": (HAND, RIGHT)}, ["a sa a", "a sb a", "a sa b"], ends=("a", "b"))
        self.assertEqual(self.told(one, both), (None, None))

    def test_the_least_show_of_only_one(self):
        one = king_play({"sa": (HAND, ANY)}, ["a sa a"])
        for body, row, which in (
            ((HAND, LEFT), (HAND, RIGHT), 0), ((HAND, RIGHT), (HAND, LEFT), 0), ((HAND,), (HAND,), 1),
            ((CROWN, ANY), (CROWN, LEFT), 1), ((ANY,), (LEFT,), 1),
            ((HAND, ANY, LEFT), (HAND, LEFT), 0), ((), (HAND, LEFT), 0), ((ANY, ANY), (HAND, LEFT), 0),
        ):
            self.assertEqual(self.told(one, king_play({"sa": body}, ["a sa a"])), (row, which))

    def test_the_empty_show(self):
        one = king_play({"sa": (ANY,)}, ["a sa b", "b sa a"])
        two = king_play({"sa": (ANY,)}, ["a sa b", "b sa a"], ends=("b",))
        self.assertEqual(self.told(one, two), ((), 0))

    def test_against_all_shows(self):
        rng = random.Random(12)
        parted = 0
        for _ in range(120):
            one, two = random_play(rng), random_play(rng)
            row, which = self.told(one, two)
            shows = [all_shows(play, 4) for play in (one, two)]
            wanted = least(shows[0] ^ shows[1])
            if wanted is not None:
                parted += 1
                self.assertEqual((row, which), (wanted, 0 if wanted in shows[0] else 1))
            elif row is not None:
                self.assertGreater(len(row), 4)
                self.assertEqual([has_show(one, row), has_show(two, row)], [which == 0, which == 1])
        self.assertGreater(parted, 30)

    def test_errors(self):
        fine = king_play({"sa": (ANY,)}, ["a sa a"])
        unsound = king_play({"sa": (("exit", "king", "any"),)}, ["a sa a"])
        other = king_play({"sa": (), "sb": (("exit", "king", "any"),)}, ["a sa b", "b sb a"])
        wide = play_of(WIDE_SCENES, wide_calls(21, 1), first="ta", ends=("pa",), opening=KQF)
        self.due(Spoilt((0, 0)), PlayAlike, unsound, other)
        self.due(Spoilt((0, 1, 0, 1)), PlayAlike, other, unsound)
        self.due(Spoilt((0, 0)), PlayAlike, fine, unsound)
        self.due(TooMany("picture"), PlayAlike, fine, wide)
        self.due(TooMany("picture"), PlayAlike, wide, unsound)
        self.due(Spoilt((0, 0)), PlayAlike, unsound, wide)


def marching(many, last=CROWN):
    """A play with one evening only, of so many events, the last one told."""
    full = (many - 1) // 40
    letters = "abcdefghijklmnop"
    scenes = {"full": (CROWN, HAND) * 20, "part": ((CROWN, HAND) * 20)[:many - 40 * full - 1] + (last,)}
    calls = [f"{one} full {two}" for one, two in zip(letters[:full], letters[1:])]
    return king_play(scenes, calls + [f"{letters[full]} part {letters[full + 1]}"], ends=(letters[full + 1],))


def branching(nodes, line):
    """A play with so many lots as there are nodes, times 24, and a line of so many events, and one more.

    At each node there are three puppets in any row, two of them with any face; each call begins with an event of
    its own, so that what has been seen tells the node and the picture.
    """
    other = {"king": "queen", "queen": "king"}
    scenes = {name[0]: (("turn", name, "left"),) for name in other}
    for name in other:
        passing = (("pass", name, "right", "before"),)
        scenes["p" + name[0]] = (
            ("if", ("left", name, other[name]), passing, (("if", ("left", name, "fool"), passing, ()),)),)
    scenes |= {"go": (RIGHT,), "line": ((CROWN, HAND) * 20)[:line]}
    letters = "abcdefghijklmnopqrstuvwxy"[:nodes]
    calls = ["s" + letter for letter in letters]
    chain = ["z"] + calls
    told = [f"{node} {scene} {node}" for node in calls for scene in ("k", "q", "pk", "pq")]
    told += [f"{one} go {two}" for one, two in zip(chain, chain[1:])] + ["z line zz"]
    return play_of(scenes, told, first="z", ends=("zz", calls[-1]), opening=KQF)


class MostLotsTest(Case):
    """A march of n events has n + 1 lots that are not empty, of which the last one may end."""

    def test_a_difference_as_the_401st_pair(self):
        # The pairs are those of the empty row and of the events one by one.
        for many in (41, 399, 400):
            told = PlayAlike(marching(many), marching(many, LEFT))
            self.assertEqual((len(told.row), told.row[-1], told.which), (many, CROWN, 0))
        self.due(TooMany("lot"), PlayAlike, marching(401), marching(401, LEFT))

    def test_so_many_pairs(self):
        self.assertIs(bool(PlayAlike(marching(399), marching(399))), True)
        # The end of the evening is the 401st pair; both may end there, so it shows no difference.
        self.due(TooMany("lot"), PlayAlike, marching(400), marching(400))

    def test_a_difference_far_ahead(self):
        self.assertEqual(PlayAlike(marching(500), marching(2, LEFT)).row, (CROWN, LEFT))


class ShowCountsTest(Case):
    def test_against_all_shows(self):
        rng = random.Random(13)
        for _ in range(60):
            play = random_play(rng)
            shows = all_shows(play, 4)
            self.assertEqual(show_counts(play, 4), tuple(len([1 for show in shows if len(show) == many])
                                                         for many in range(5)))

    def test_two_evenings_with_the_same_show_count_once(self):
        play = king_play({"sa": (ANY,), "sb": (LEFT,), "sc": ()}, ["a sa a", "a sb a", "a sc a"])
        self.assertEqual(show_counts(play, 5), (1, 2, 4, 8, 16, 32))
        self.assertEqual(show_counts(play, 0), (1,))
        play = king_play({"sa": (ANY,), "sb": (LEFT,), "sc": ()}, ["a sa b", "a sb a", "b sc b"], ends=("b",))
        self.assertEqual(show_counts(play, 3), (0, 2, 2, 2))

    def test_most(self):
        play = king_play({"sa": (ANY,)}, ["a sa a"])
        self.assertEqual(show_counts(play, 30)[-1], 2 ** 30)
        self.assertEqual(len(show_counts(play, 30)), 31)
        for thing in (-1, 31, True, None, "3", 3.0, (3,)):
            self.due(BadMost(thing), show_counts, play, thing)

    def test_errors_in_order(self):
        unsound = king_play({"sa": (("exit", "king", "any"),)}, ["a sa a"])
        wide = play_of(WIDE_SCENES, wide_calls(21, 1), first="ta", ends=("pa",), opening=KQF)
        self.due(BadMost(31), show_counts, unsound, 31)
        self.due(Spoilt((0, 0)), show_counts, unsound, 30)
        self.due(TooMany("picture"), show_counts, wide, 0)

    def test_so_many_lots(self):
        # 1 + 16 * 24 lots, and one for each event of the line.
        counts = show_counts(branching(16, 15), 30)
        self.assertEqual(counts[15], show_counts(branching(16, 14), 15)[15] + 1)
        self.due(TooMany("lot"), show_counts, branching(16, 16), 30)
        # With fewer events fewer lots are met.
        self.assertEqual(len(show_counts(branching(16, 16), 15)), 16)
        self.assertEqual(show_counts(branching(16, 40), 15)[1:15], counts[1:15])
        self.due(TooMany("lot"), show_counts, branching(17, 1), 30)
