"""What several tests need: an assertion on errors, lists in the place of tuples, and samples."""

import copy
import unittest

from freestrung.casts import Cast
from freestrung.errors import StrungError
from freestrung.plans import Plan
from freestrung.plays import Play
from freestrung.scenes import Book

NO_NAMES = (None, 7, True, "", "King", "ninelongs", "a b", "k1", "pass", "curtain", ("king",), ["king"], b"king")
NO_ROWS = (None, 7, True, "ab", {"a": 1}, {"a"}, b"ab", iter(()))


def listed(thing):
    """The thing with lists in the place of tuples, at any depth."""
    if isinstance(thing, tuple):
        return [listed(part) for part in thing]
    return thing


def only_tuples(thing):
    """Whether there is no list in a thing, at any depth."""
    if isinstance(thing, tuple):
        return all(only_tuples(part) for part in thing)
    return not isinstance(thing, list)


class Case(unittest.TestCase):
    """A test case that can tell which error is due, with all that it bears."""

    def due(self, error, call, *passed, **named):
        """The call raises an error of just this class, with just these attributes."""
        with self.assertRaises(StrungError) as caught:
            call(*passed, **named)
        raised = caught.exception
        self.assertIs(raised.__class__, error.__class__)
        self.assertEqual(vars(raised).keys(), vars(error).keys())
        for name, want in vars(error).items():
            got = vars(raised)[name]
            self.assertIs(got.__class__, want.__class__)
            self.assertEqual(got, want)
        return raised

    def due_as_passed(self, kind, name, thing, call, *passed, **named):
        """The call raises an error that bears the very thing that was passed."""
        with self.assertRaises(kind) as caught:
            call(*passed, **named)
        self.assertIs(caught.exception.__class__, kind)
        self.assertIs(vars(caught.exception)[name], thing)

    def same_with_lists(self, call, *passed):
        """The call gives the same for lists, which it leaves as they were; returns what it gives."""
        lists = [listed(thing) for thing in passed]
        before = copy.deepcopy(lists)
        wanted = call(*passed)
        got = call(*lists)
        self.assertEqual(got, wanted)
        self.assertEqual(lists, before)
        self.assertTrue(only_tuples(got))
        return got


TROUPE = (("king", ("crown", "hand")), ("queen", ("fan",)), ("fool", ("bell", "nose", "hand")))


def troupe():
    """A cast of three."""
    return Cast(TROUPE)


def book_of(*bodies):
    """A book of the cast of three, with scenes sa, sb, .. of these bodies."""
    return Book(troupe(), tuple(("s" + "abcdefg"[number], body) for number, body in enumerate(bodies)))


def play_of(scenes, calls, *, first="a", ends=("a",), opening=((), ()), cast=None):
    """A play of these scenes, told as a dict, and these calls, told as `"node scene node"`."""
    plan = Plan(first, ends, tuple(tuple(call.split(" ")) for call in calls))
    return Play(Book(cast or troupe(), tuple(scenes.items())), plan, opening)


KQF = (("king", "queen", "fool"), (0, 0, 0))


def mover(puppet):
    """A body that brings a puppet to the right end, facing the front."""
    return (("exit", puppet, "any"), ("enter", puppet, "right"))


# Turns the three through all their faces, one after the other; the queen alone if the king is off.
TURNING = (("if", ("on", "king"), (
    ("turn", "king", "any"),
    ("if", ("front", "king"), (
        ("turn", "queen", "any"),
        ("if", ("front", "queen"), (("turn", "fool", "any"),), ()),
    ), ()),
), (("turn", "queen", "any"),)),)

WIDE_SCENES = {
    "mk": mover("king"), "mq": mover("queen"), "mf": mover("fool"), "tt": TURNING,
    "xk": (("exit", "king", "any"),), "clear": (("exit", "queen", "any"), ("exit", "fool", "any")),
}


def wide_calls(trios, pairs):
    """Calls along nodes `ta`, `tb`, .. with 48 pictures each, and then `pa`, `pb`, .. with 8 each."""
    letters = "abcdefghijklmnopqrstuvwxyz"
    calls = [f"ta {scene} ta" for scene in ("mk", "mq", "mf", "tt")]
    calls += [f"t{one} tt t{two}" for one, two in zip(letters[:trios - 1], letters[1:])]
    calls += [f"t{letters[trios - 1]} xk pa"]
    calls += [f"p{one} tt p{two}" for one, two in zip(letters[:pairs - 1], letters[1:])]
    return calls


def chain(names, scenes):
    """Calls of these scenes, from each of some nodes to the next one."""
    return [f"{one} {scene} {other}" for one, scene, other in zip(names, scenes, names[1:])]


def node_names(many):
    """So many names of nodes."""
    letters = "abcdefghijklmnopqrstuvwxyz"
    return [one + other for one in "uvw" for other in letters][:many]


# Seven winds and twelve holds of a crew as strong as this one.
STRONG = {"players": 3, "reach": 1, "beats": 3, "winds": 3}
WINDING = {"t": (("turn", "king", "any"),) * 3 + (("rest",),) * 2, "e": ()}


def winding_play(ahead, behind):
    """A play with so many nodes of one standing, and then so many nodes of 84 standings each, one after the other."""
    names = node_names(ahead + behind)
    scenes = ["e"] * (ahead - 1) + ["t"] + ["e"] * (behind - 1)
    return play_of(WINDING, chain(names, scenes), first=names[0], ends=names[-1:], opening=KQF)


QUARTET = (("king", "queen", "fool", "ghost"), (0, 0, 0, 0))


def turned_if_on(name, otherwise=()):
    return (("if", ("on", name), (("turn", name, "any"), ("rest",)), otherwise),)


# Each call of these has deeds of the same kinds wherever it is played in a calm play.
CALM = {
    "tk": turned_if_on("king"), "tf": turned_if_on("fool"), "tg": turned_if_on("ghost"), "e": (),
    "tq": turned_if_on("queen", (("enter", "queen", "left"), ("pass", "queen", "right", "before"))),
    "x": (("if", ("on", "ghost"), (("exit", "ghost", "any"), ("rest",)), (
        *(("exit", name, "any") for name in KQF[0]), ("enter", "king", "left"), ("turn", "king", "any"), ("rest",))),),
}


def calm_play(full, singles, last=()):
    """A play with so many nodes of 16 pictures, one of 8, and so many of one picture, one after the other.

    The scenes of `last` are called behind that. Ends are all nodes from the first one of one picture on.
    """
    names = node_names(full + 1 + singles + len(last))
    scenes = ["tk"] + ["e"] * (full - 2) + ["x"] * (1 + bool(singles)) + ["e"] * (singles - 1) + list(last)
    calls = [f"{names[0]} {scene} {names[0]}" for scene in ("tk", "tq", "tf", "tg")]
    cast = Cast(TROUPE + (("ghost", ("veil",)),))
    return play_of(CALM, calls + chain(names, scenes), first=names[0], ends=names[full + bool(singles):],
                   opening=QUARTET, cast=cast)


def fork_play(ahead=1):
    """A play in which, behind so many rests, either the two puppets to the left or those to the right are to pass.

    One player, who moves one bar at a time, must know which of them in time.
    """
    names = node_names(ahead + 1) + ["z"]
    scenes = {"r": (("rest",),), "kq": (("pass", "king", "right", "before"),), "fg": (("pass", "fool", "right", "before"),)}
    calls = chain(names[:-1], ["r"] * ahead) + [f"{names[ahead]} {scene} z" for scene in ("kq", "fg")]
    cast = Cast(TROUPE + (("ghost", ("veil",)),))
    return play_of(scenes, calls, first=names[0], ends=("z",), opening=QUARTET, cast=cast)


# The one player of fork plays.
ALONE = {"players": 1, "reach": 1, "beats": 1, "bears": 0, "winds": 0}
