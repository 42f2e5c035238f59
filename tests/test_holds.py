"""Points 22 and 23: holds, moves, how far, paths, and the hold behind a deed."""

import itertools
import unittest

from freestrung.crews import Crew
from freestrung.errors import BadHold
from freestrung.holds import behind, far, holds, is_alone, is_held, is_hold, lawful, next_holds, path
from tests.helpers import NO_NAMES, NO_ROWS, Case, listed

ROWS = ((), ("b",), ("b", "a"), ("c", "a", "b"), ("d", "b", "a", "c"))
CREWS = tuple(Crew(players, reach=reach) for players in (1, 2, 3, 4) for reach in (0, 1, 2, 3))

HOLDS = ((), (("a",),), (("a", "b"),), (("a",), ("b",)), (("a", "d"), ("b", "c")), (("a", "z"), ("b",)),
         (("a",), ("b",), ("c",), ("d",), ("e",), ("f",)))

NO_HOLDS = ((("b", "a"),), (("a", "a"),), (("a", "b", "c"),), ((),), (("a",), ()), (("b",), ("a",)), (("a",), ("a",)),
            (("a", "b"), ("b",)), (("a",), ("a", "b")), (("a", "b"), ("a", "c")), (("a", "b"), ("b", "c")), ("a",),
            ("ab",), (("a", 1),), (("a",), None), ((("a",),),), (True,), ({"a": 1},))


class Hands:
    """The holds and moves of a crew, told by two hands for each player."""

    def __init__(self, crew, row):
        self.crew, self.row, self.players = crew, row, crew.players

    def hold_of(self, places):
        """The hold when each bar is on its peg (None) or with a player; None if it is not lawful."""
        groups = {}
        for name, player in zip(self.row, places):
            if player is not None:
                groups.setdefault(player, []).append(name)
        for group in groups.values():
            where = [self.row.index(name) for name in group]
            if len(group) > 2 or max(where) - min(where) > self.crew.reach:
                return None
        return tuple(sorted(tuple(sorted(group)) for group in groups.values()))

    def all_places(self):
        return itertools.product((None,) + tuple(range(self.players)), repeat=len(self.row))

    def moves(self):
        """For each lawful hold all lawful ones that are a move away."""
        found = {}
        for places in self.all_places():
            hold = self.hold_of(places)
            if hold is None:
                continue
            after = found.setdefault(hold, set())
            for number in range(len(self.row)):
                for player in (None,) + tuple(range(self.players)):
                    moved = self.hold_of(places[:number] + (player,) + places[number + 1:])
                    if moved is not None and moved != hold:
                        after.add(moved)
        return found


def all_ways(moves, hold, other):
    """All of the shortest paths between two holds."""
    ways = [(hold,)]
    while not any(way[-1] == other for way in ways):
        ways = [way + (after,) for way in ways for after in moves[way[-1]] if after not in way]
    return [way for way in ways if way[-1] == other]


class IsHoldTest(Case):
    def test_holds(self):
        for hold in HOLDS:
            self.assertIs(is_hold(hold), True)
            self.assertIs(is_hold(listed(hold)), True)

    def test_no_holds(self):
        for thing in NO_HOLDS + NO_ROWS + tuple(((name,),) for name in NO_NAMES):
            self.assertIs(is_hold(thing), False)
            self.assertIs(is_hold(listed(thing)), False)
            self.due_as_passed(BadHold, "hold", thing, lawful, Crew(4), ("a", "b"), thing)
        ring = []
        ring.append(ring)
        self.assertIs(is_hold(ring), False)


class LawfulTest(Case):
    def test_players(self):
        row = ("a", "b", "c", "d")
        for players in (1, 2, 3, 4):
            for many in range(5):
                hold = tuple((name,) for name in row[:many])
                self.assertIs(lawful(Crew(players), row, hold), many <= players)
        self.assertIs(lawful(Crew(1, reach=3), row, (("a", "b"),)), True)
        self.assertIs(lawful(Crew(1, reach=3), row, (("a", "b"), ("c", "d"))), False)

    def test_reach(self):
        row = ("d", "b", "a", "c")
        for hold, least in (((("b", "d"),), 1), ((("a", "d"),), 2), ((("c", "d"),), 3), ((("a", "b"),), 1)):
            for reach in range(4):
                self.assertIs(lawful(Crew(2, reach=reach), row, hold), reach >= least)

    def test_names(self):
        self.assertIs(lawful(Crew(4), ("a", "b"), (("c",),)), False)
        self.assertIs(lawful(Crew(4), (), ()), True)
        self.assertIs(lawful(Crew(4), (), (("a",),)), False)

    def test_lists(self):
        self.assertIs(lawful(Crew(2), ["a", "b"], [["a", "b"]]), True)
        self.assertIs(lawful(Crew(2, reach=0), ["a", "b"], [["a", "b"]]), False)


class MovesTest(Case):
    def test_all_lawful_holds_ascending(self):
        for crew in CREWS:
            for row in ROWS:
                found = list(holds(crew, row))
                self.assertEqual(found, sorted(Hands(crew, row).moves()))
                self.assertEqual(found, list(holds(crew, list(row))))
        self.assertEqual(list(holds(Crew(1), ("b", "a"))), [(), (("a",),), (("a", "b"),), (("b",),)])

    def test_a_generator_does_nothing_at_first(self):
        holds(None, None)

    def test_one_move_away(self):
        for crew in CREWS:
            for row in ROWS:
                for hold, after in Hands(crew, row).moves().items():
                    self.assertEqual(next_holds(crew, row, hold), tuple(sorted(after)))

    def test_kinds_of_moves(self):
        crew, row = Crew(2), ("a", "b", "c")
        self.assertEqual(next_holds(crew, row, (("a", "b"),)), (
            (("a",),), (("a",), ("b",)), (("a", "b"), ("c",)), (("b",),)))
        self.assertEqual(next_holds(Crew(1), row, (("a", "b"),)), ((("a",),), (("b",),)))
        self.assertEqual(next_holds(Crew(1), row, ()), ((("a",),), (("b",),), (("c",),)))
        self.assertEqual(next_holds(Crew(1), (), ()), ())

    def test_how_far_and_paths(self):
        for crew in (Crew(1), Crew(2, reach=0), Crew(2, reach=2), Crew(3, reach=1)):
            for row in ROWS[:4]:
                moves = Hands(crew, row).moves()
                for hold, other in itertools.product(moves, repeat=2):
                    ways = all_ways(moves, hold, other)
                    self.assertEqual(far(crew, row, hold, other), len(ways[0]) - 1)
                    self.assertEqual(path(crew, row, hold, other), min(ways))

    def test_examples(self):
        crew, row = Crew(2, reach=2), ("d", "b", "a", "c")
        self.assertEqual(path(crew, row, (), ()), ((),))
        self.assertEqual(far(crew, row, (("a",),), (("a",),)), 0)
        self.assertEqual(path(crew, row, (("a", "b"),), (("c",), ("d",))),
                         ((("a", "b"),), (("a",),), (), (("c",),), (("c",), ("d",))))
        self.assertEqual(far(crew, row, (("a", "b"),), (("a",), ("b",))), 1)
        self.assertEqual(far(crew, row, (("a", "d"), ("b", "c")), (("a", "c"), ("b", "d"))), 3)

    def test_errors(self):
        crew, row = Crew(1), ("a", "b", "c")
        wrong = NO_HOLDS + NO_ROWS + ((("a",), ("b",)), (("a", "c"),), (("d",),), ["a"], [["b", "a"]])
        for thing in wrong:
            self.due_as_passed(BadHold, "hold", thing, next_holds, crew, row, thing)
            for call in (far, path):
                self.due_as_passed(BadHold, "hold", thing, call, crew, row, thing, None)
                self.due_as_passed(BadHold, "hold", thing, call, crew, row, (), thing)

    def test_lists(self):
        crew, row = Crew(2), ("a", "b", "c")
        hold, other = (("a", "b"),), (("b",), ("c",))
        self.same_with_lists(lambda row, hold: next_holds(crew, row, hold), row, hold)
        self.same_with_lists(lambda row, hold, other: far(crew, row, hold, other), row, hold, other)
        self.same_with_lists(lambda row, hold, other: path(crew, row, hold, other), row, hold, other)


class BarsTest(Case):
    def test_held_and_alone(self):
        hold = (("a", "d"), ("b",))
        for name, held, alone in (("a", True, False), ("d", True, False), ("b", True, True), ("c", False, False)):
            self.assertIs(self.same_with_lists(lambda hold: is_held(hold, name), hold), held)
            self.assertIs(self.same_with_lists(lambda hold: is_alone(hold, name), hold), alone)
        for thing in NO_NAMES + (("a", "d"), ("b",)):
            self.assertIs(is_held(hold, thing), False)
            self.assertIs(is_alone(hold, thing), False)
        self.assertIs(is_held((), "a"), False)

    def test_behind_a_deed(self):
        hold = (("a", "d"), ("b", "c"))
        for deed in (("pass", "a", "b", "left", "any"), ("turn", "a", "any"), ("move", "a", "j"),
                     ("enter", "e", "left"),
                     ("rest",), ("exit", "e", "any")):
            self.assertEqual(self.same_with_lists(behind, hold, deed), hold)
        for name, left in (("a", (("b", "c"), ("d",))), ("d", (("a",), ("b", "c"))), ("b", (("a", "d"), ("c",))),
                           ("c", (("a", "d"), ("b",)))):
            self.assertEqual(self.same_with_lists(behind, hold, ("exit", name, "any")), left)
        self.assertEqual(behind((("a",), ("b",)), ("exit", "a", "before")), (("b",),))
        self.assertEqual(behind((), ("exit", "a", "before")), ())


if __name__ == "__main__":
    unittest.main()
