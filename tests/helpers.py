"""What several tests need: an assertion on errors, lists in the place of tuples, and samples."""

import copy
import unittest

from freestrung.casts import Cast
from freestrung.errors import StrungError
from freestrung.plans import Plan
from freestrung.plays import Play
from freestrung.scenes import Book

NO_NAMES = (None, 7, True, "", "King", "ninelongs", "a b", "k1", "pass", "curtain", ("king",), ["king"], b"king")
NO_ROWS = (None, 7, True, "ab", {"a": 1}, {"a"}, b"ab", iter(()))


def listed(thing):
    """The thing with lists in the place of tuples, at any depth."""
    if isinstance(thing, tuple):
        return [listed(part) for part in thing]
    return thing


def only_tuples(thing):
    """Whether there is no list in a thing, at any depth."""
    if isinstance(thing, tuple):
        return all(only_tuples(part) for part in thing)
    return not isinstance(thing, list)


class Case(unittest.TestCase):
    """A test case that can tell which error is due, with all that it bears."""

    def due(self, error, call, *passed, **named):
        """The call raises an error of just this class, with just these attributes."""
        with self.assertRaises(StrungError) as caught:
            call(*passed, **named)
        raised = caught.exception
        self.assertIs(raised.__class__, error.__class__)
        self.assertEqual(vars(raised).keys(), vars(error).keys())
        for name, want in vars(error).items():
            got = vars(raised)[name]
            self.assertIs(got.__class__, want.__class__)
            self.assertEqual(got, want)
        return raised

    def due_as_passed(self, kind, name, thing, call, *passed, **named):
        """The call raises an error that bears the very thing that was passed."""
        with self.assertRaises(kind) as caught:
            call(*passed, **named)
        self.assertIs(caught.exception.__class__, kind)
        self.assertIs(vars(caught.exception)[name], thing)

    def same_with_lists(self, call, *passed):
        """The call gives the same for lists, which it leaves as they were; returns what it gives."""
        lists = [listed(thing) for thing in passed]
        before = copy.deepcopy(lists)
        wanted = call(*passed)
        got = call(*lists)
        self.assertEqual(got, wanted)
        self.assertEqual(lists, before)
        self.assertTrue(only_tuples(got))
        return got


TROUPE = (("king", ("crown", "hand")), ("queen", ("fan",)), ("fool", ("bell", "nose", "hand")))


def troupe():
    """A cast of three."""
    return Cast(TROUPE)


def book_of(*bodies):
    """A book of the cast of three, with scenes sa, sb, .. of these bodies."""
    return Book(troupe(), tuple(("s" + "abcdefg"[number], body) for number, body in enumerate(bodies)))


def play_of(scenes, calls, *, first="a", ends=("a",), opening=((), ()), cast=None):
    """A play of these scenes, told as a dict, and these calls, told as `"node scene node"`."""
    plan = Plan(first, ends, tuple(tuple(call.split(" ")) for call in calls))
    return Play(Book(cast or troupe(), tuple(scenes.items())), plan, opening)


KQF = (("king", "queen", "fool"), (0, 0, 0))


def mover(puppet):
    """A body that brings a puppet to the right end, facing the front."""
    return (("exit", puppet, "any"), ("enter", puppet, "right"))


# Turns the three through all their faces, one after the other; the queen alone if the king is off.
TURNING = (("if", ("on", "king"), (
    ("turn", "king", "any"),
    ("if", ("front", "king"), (
        ("turn", "queen", "any"),
        ("if", ("front", "queen"), (("turn", "fool", "any"),), ()),
    ), ()),
), (("turn", "queen", "any"),)),)

WIDE_SCENES = {
    "mk": mover("king"), "mq": mover("queen"), "mf": mover("fool"), "tt": TURNING,
    "xk": (("exit", "king", "any"),), "clear": (("exit", "queen", "any"), ("exit", "fool", "any")),
}


def wide_calls(trios, pairs):
    """Calls along nodes `ta`, `tb`, .. with 48 pictures each, and then `pa`, `pb`, .. with 8 each."""
    letters = "abcdefghijklmnopqrstuvwxyz"
    calls = [f"ta {scene} ta" for scene in ("mk", "mq", "mf", "tt")]
    calls += [f"t{one} tt t{two}" for one, two in zip(letters[:trios - 1], letters[1:])]
    calls += [f"t{letters[trios - 1]} xk pa"]
    calls += [f"p{one} tt p{two}" for one, two in zip(letters[:pairs - 1], letters[1:])]
    return calls
