"""Point 10: sound plays, tables of pairs, and how they are judged."""

import itertools
import random

from freestrung.casts import Cast
from freestrung.errors import TooMany
from freestrung.sound import Sound, judge_pictures
from tests.helpers import KQF, NO_ROWS, WIDE_SCENES, Case, listed, only_tuples, play_of, troupe, wide_calls

EMPTY = ((), ())
KING = (("king",), (0,))
KING_BACK = (("king",), (1,))

SMALL = {
    "in": (("if", ("off", "king"), (("enter", "king", "left"),), ()),),
    "turn": (("turn", "king", "any"),),
    "out": (("exit", "king", "before"),),
}
SMALL = {"come" if name == "in" else "round" if name == "turn" else "go": body for name, body in SMALL.items()}


def small(*calls, ends=("a",), first="a", opening=EMPTY):
    return play_of(SMALL, calls, ends=ends, first=first, opening=opening)


def model(play, most=7):
    """Whether a play is sound, with its table or row, told by trying all rows of calls of a few lengths."""
    pairs = []
    seen = set()
    rows = [()]
    for _ in range(most):
        after = []
        for row in rows:
            picture = play.picture_behind(row)
            if picture is None:
                return None, row
            pair = (play.plan.node_behind(row), picture)
            if pair not in seen:
                seen.add(pair)
                pairs.append(pair)
                after += [row + (call,) for call in play.plan.calls_at(pair[0])]
        rows = after
    assert not rows, "the model looked at too few lengths"
    return tuple(pairs), None


def random_play(rng):
    """A play of some nodes with a king and a queen, often not sound."""
    bodies = (
        (("if", ("off", "king"), (("enter", "king", "left"),), ()),),
        (("turn", "king", "any"),), (("if", ("on", "king"), (("turn", "king", "left"),), ()),),
        (("if", ("on", "king"), (("exit", "king", "any"),), (("rest",),)),),
        (("until", ("front", "king"), (("turn", "king", "any"),)),),
        (("until", ("on", "king"), (("rest",),)),), (("enter", "queen", "right"),), (("move", "king", "hand"),),
        (("if", ("on", "queen"), (("exit", "queen", "behind"),), (("enter", "queen", "left"),)),), (),
    )
    scenes = {"s" + letter: rng.choice(bodies) for letter in "abcde"}
    nodes = "abc"[:rng.randint(1, 3)]
    calls = {f"{one} {rng.choice(sorted(scenes))} {two}" for one in nodes for two in nodes if rng.random() < 0.8}
    calls |= {f"{node} sa a" for node in nodes} | {f"a sb {node}" for node in nodes}
    opening = rng.choice((EMPTY, KING, KING_BACK, (("king", "queen"), (1, 0))))
    return play_of(scenes, rng.sample(sorted(calls), len(calls)), opening=opening)


def only_in(picture, body):
    """A body that does another one in just one picture of two puppets."""
    (one, two), faces = picture
    tests = [("left", one, two)] + [(("front", "back")[face], name) for name, face in zip((one, two), faces)]
    for test in reversed(tests):
        body = (("if", test, body, ()),)
    return body


class SoundTest(Case):
    def test_a_sound_play(self):
        play = small("a come b", "b round b", "b go a", "b come c", ends=("a", "c"))
        sound = Sound(play)
        self.assertIs(bool(sound), True)
        self.assertIsNone(sound.row)
        self.assertEqual(sound.table, (("a", EMPTY), ("b", KING), ("b", KING_BACK), ("c", KING), ("c", KING_BACK)))
        self.assertEqual(len(sound), 5)
        self.assertEqual(tuple(sound), sound.table)
        self.assertTrue(only_tuples(sound.table))

    def test_a_play_without_calls(self):
        sound = Sound(small())
        self.assertEqual((bool(sound), sound.table, sound.row), (True, (("a", EMPTY),), None))

    def test_the_least_row(self):
        play = small("a come b", "b go a", "b go b", "b round b", "b come a")
        sound = Sound(play)
        self.assertIs(bool(sound), False)
        self.assertIsNone(sound.table)
        self.assertEqual(sound.row, (0, 2, 1))
        self.assertEqual((len(sound), list(sound)), (0, []))
        self.assertNotIn(("a", EMPTY), sound)
        self.assertEqual(Sound(small("a go b", "b round a")).row, (0,))

    def test_each_way_not_to_end(self):
        long = (("repeat", 4, (("repeat", 4, (("repeat", 4, (("rest",),) * 5),)),)),)
        for body in ((("turn", "king", "any"),), (("until", ("on", "king"), ()),), long):
            self.assertEqual(Sound(play_of({"x": (), "y": body}, ["a x a", "a y a"])).row, (1,))

    def test_against_all_rows(self):
        rng = random.Random(10)
        told = [0, 0]
        for _ in range(150):
            play = random_play(rng)
            sound = Sound(play)
            self.assertEqual((sound.table, sound.row), model(play, 20))
            told[bool(sound)] += 1
            if sound:
                self.assertIsNone(judge_pictures(play, sound.table))
        self.assertGreater(min(told), 20)

    def test_in(self):
        play = small("a come b", "b round b", "b go a")
        sound = Sound(play)
        for pair in sound.table:
            self.assertIn(pair, sound)
            self.assertIn(listed(pair), sound)
        for thing in NO_ROWS + ((), ("a",), ("a", KING), ("c", EMPTY), ("a", EMPTY, 0), ("b", (("king",), (True,))),
                                ("b", (("king",), (False,))), ("b", (("king",), (2,))), (["a"], EMPTY),
                                ("b", (("king", "queen"), (0, 0))), (("a", EMPTY),), ("b", KING[0]), ("b", None)):
            self.assertNotIn(thing, sound)
            self.assertNotIn(listed(thing), sound)

    def test_so_many_pairs(self):
        play = play_of(WIDE_SCENES, wide_calls(20, 5), first="ta", ends=("pe",), opening=KQF)
        sound = Sound(play)
        self.assertEqual(len(sound), 1000)
        self.assertIsNone(judge_pictures(play, sound.table))
        more = wide_calls(20, 5) + ["pe clear z"]
        play = play_of(WIDE_SCENES, more, first="ta", ends=("z",), opening=KQF)
        self.due(TooMany("picture"), Sound, play)
        table = sound.table + (("z", EMPTY),)
        self.assertIsNone(judge_pictures(play, table))

    def test_a_flow_that_does_not_end_at_the_last_pair_that_is_allowed(self):
        play = play_of(WIDE_SCENES, wide_calls(20, 5), first="ta", ends=("pe",), opening=KQF)
        last = Sound(play).table[-1]
        self.assertEqual((last[0], set(last[1][0])), ("pe", {"queen", "fool"}))
        # Both scenes do nothing at the other pictures of this node; the one makes a new pair, the other is spoilt.
        both = only_in(last[1], (("exit", "queen", "any"), ("exit", "fool", "any")))
        scenes = WIDE_SCENES | {"xk": (("if", ("on", "king"), (("exit", "king", "any"),), both),)}
        scenes["clear"] = only_in(last[1], (("exit", "king", "any"),))
        calls = wide_calls(20, 5)
        many = len(calls)
        for more, row in ((["pe clear pe", "pe xk pe"], True), (["pe xk pe", "pe clear pe"], False),
                          (["pe clear pe"], True), (["pe xk pe"], False)):
            play = play_of(scenes, calls + more, first="ta", ends=("pe",), opening=KQF)
            if row:
                sound = Sound(play)
                self.assertEqual(sound.row[-1], many)
                self.assertEqual(play.picture_behind(sound.row[:-1]), last[1])
            else:
                self.due(TooMany("picture"), Sound, play)


class JudgePicturesTest(Case):
    def setUp(self):
        self.play = small("a come b", "b round b", "b go a", "b come c", ends=("a", "c"))
        self.table = Sound(self.play).table

    def judged(self, table, play=None):
        told = judge_pictures(play or self.play, table)
        self.assertEqual(judge_pictures(play or self.play, listed(table)), told)
        return told

    def test_closed_tables(self):
        self.assertIsNone(self.judged(self.table))
        for table in itertools.permutations(self.table):
            self.assertIsNone(self.judged(table))
        self.assertIsNone(self.judged(self.table * 2))
        self.assertIsNone(self.judged(self.table + (("c", EMPTY), ("c", (("fool", "king"), (1, 1))))))

    def test_a_row_left_out(self):
        for number, wrong in ((0, -1), (1, 0), (2, 1), (3, 1), (4, 2)):
            self.assertEqual(self.judged(self.table[:number] + self.table[number + 1:]), wrong)
        self.assertEqual(self.judged(()), -1)

    def test_a_row_put_in(self):
        # At node b a king must be there.
        self.assertEqual(self.judged(self.table[:2] + (("b", EMPTY),) + self.table[2:]), 2)
        self.assertEqual(self.judged((("b", (("queen", "king"), (0, 0))),) + self.table), 0)

    def test_the_first_row_that_is_wrong(self):
        self.assertEqual(self.judged(self.table + (("d", EMPTY), ("b", EMPTY))), 5)
        self.assertEqual(self.judged(self.table + (("b", EMPTY), ("d", EMPTY))), 5)

    def test_rows_of_any_kind(self):
        for thing in NO_ROWS + ((), ("c",), ("c", EMPTY, 1), ("d", EMPTY), ("C", EMPTY), (None, EMPTY), ("c", ()),
                                ("c", (("king",), (2,))), ("c", (("king",), (True,))), ("c", (("king",), ())),
                                ("c", (("knave",), (0,))), (("c",), EMPTY), ("c", None), object()):
            self.assertEqual(self.judged(self.table + (thing,)), 5)
            self.assertEqual(self.judged((thing,) + self.table), 0)
        self.assertEqual(self.judged(self.table[:1] + (("b", (("king",), (False,))),) + self.table[2:]), 0)

    def test_the_beginning_goes_ahead(self):
        self.assertEqual(self.judged((None,) + self.table[1:]), -1)
        self.assertEqual(self.judged(self.table[1:]), -1)
        self.assertEqual(self.judged((("a", KING),) + self.table[1:]), -1)

    def test_a_flow_that_does_not_end(self):
        play = small("a come b", "b go a", "a go a", "b round b")
        self.assertEqual(self.judged((("b", KING), ("b", KING_BACK), ("a", EMPTY)), play), 2)

    def test_puppets_of_another_cast(self):
        play = play_of(SMALL, ["a come a"], cast=Cast((("king", ("hand",)),)))
        self.assertIsNone(self.judged((("a", EMPTY), ("a", KING)), play))
        self.assertEqual(self.judged((("a", EMPTY), ("a", KING), ("a", (("queen",), (0,)))), play), 2)
        self.assertEqual(list(troupe()), ["king", "queen", "fool"])
