"""Random sound plays and crews, small enough to be compared with plain models."""

import random

from freestrung.casts import Cast
from freestrung.crews import Crew
from freestrung.errors import StrungError
from freestrung.plans import Plan
from freestrung.plays import Play
from freestrung.scenes import Book
from freestrung.sound import Sound

PUPPETS = ("king", "queen", "fool", "ghost")
WAYS = ("before", "behind", "any")
SHOULDERS = ("left", "right", "any")


def guarded_pass(rng, one, other):
    """One passes the neighbour on the side of another one, if both are there."""
    sides = [(("pass", one, side, rng.choice(WAYS)),) for side in ("left", "right")]
    return ("if", ("on", one), (("if", ("on", other), (("if", ("left", other, one), *sides),), ()),), ())


def random_statement(rng, names, deep=0):
    """A statement whose flow ends from each picture of these puppets, but seldom."""
    one, other = rng.sample(names, 2) if len(names) > 1 else names * 2
    kind = rng.choice("ppppttttmxxerib" if deep == 0 else "pppttmxr")
    if kind == "p" and one != other:
        return guarded_pass(rng, one, other)
    if kind == "m":
        return ("if", ("front", one), (("move", one, "hand"),), ())
    if kind == "x":
        entering = (("enter", one, rng.choice(("left", "right"))),)
        return ("if", ("on", one), (("exit", one, rng.choice(WAYS)),), entering)
    if kind == "e":
        return ("if", ("off", one), (("enter", one, rng.choice(("left", "right"))),), ())
    if kind == "r":
        return ("rest",)
    if kind == "i":
        return ("if", (rng.choice(("front", "back", "on")), one), random_body(rng, names, 1), random_body(rng, names, 1))
    if kind == "b":
        return ("repeat", rng.randint(1, 2), random_body(rng, names, 1))
    return ("if", ("on", one), (("turn", one, rng.choice(SHOULDERS)),), ())


def random_body(rng, names, deep=0):
    return tuple(random_statement(rng, names, deep) for _ in range(rng.randint(0, 3 - deep)))


def random_play(rng, most, nodes="abcd"):
    """A play of at most so many puppets; it may be of any kind, or none."""
    names = PUPPETS[:rng.randint(1, most)]
    scenes = tuple(("s" + letter, random_body(rng, names)) for letter in "xyz"[:rng.randint(1, 3)])
    nodes = nodes[:rng.randint(1, len(nodes))]
    calls = {(rng.choice(nodes), rng.choice(scenes)[0], rng.choice(nodes)): 1 for _ in range(rng.randint(1, 6))}
    row = tuple(rng.sample(names, rng.randint(len(names) - 1, len(names))))
    return Play(
        Book(Cast(tuple((name, ("hand", "fan")) for name in names)), scenes),
        Plan("a", tuple(rng.sample(nodes, rng.randint(1, len(nodes)))), tuple(calls)),
        (row, tuple(rng.randint(0, 1) for _ in row)),
    )


def random_crew(rng):
    return Crew(rng.randint(1, 3), reach=rng.randint(0, 2), beats=rng.randint(0, 2), bears=rng.choice((0, 2, 4, 6)),
                winds=rng.randint(0, 2))


def sound_plays(seed, many, most=3, nodes="abcd"):
    """So many sound plays, each with a crew and the source of chance that made them."""
    rng = random.Random(seed)
    found = 0
    while found < many:
        try:
            play = random_play(rng, most, nodes)
        except StrungError:
            continue
        if Sound(play):
            found += 1
            yield rng, play, random_crew(rng)
