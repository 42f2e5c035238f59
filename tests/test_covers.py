"""Points 23 and 24: hands alone: able holds, covered deeds, costs, stretches, and the fewest players."""

import functools
import itertools
import random

from freestrung.costs import costs, judge_costs
from freestrung.covers import Cover, able
from freestrung.crews import Crew
from freestrung.errors import BadDeed, BadDeeds, BadHold
from freestrung.holds import behind, far, holds, is_alone, is_held, lawful
from freestrung.pictures import acted
from freestrung.stretches import fewest_players, stretches
from tests.helpers import NO_ROWS, Case, listed, only_tuples
from tests.test_holds import NO_HOLDS

ROW = ("b", "a", "c")
MOVE_A, MOVE_B = ("move", "a", "j"), ("move", "b", "j")
PASS = ("pass", "a", "c", "right", "any")


def row_after(row, deed):
    return acted((row, (0,) * len(row)), deed)[0]


def rows_of(row, deeds):
    """The rows ahead of each deed, and the last one."""
    found = [tuple(row)]
    for deed in deeds:
        found.append(row_after(found[-1], deed))
    return found


def is_able(crew, row, deed, hold):
    if deed[0] in ("pass", "turn", "move", "exit") and not is_held(hold, deed[1]):
        return False
    if deed[0] == "move" and not is_alone(hold, deed[1]):
        return False
    return lawful(crew, row_after(row, deed), behind(hold, deed))


@functools.lru_cache(None)
def able_of(numbers, row, deed):
    crew = Crew.of(numbers)
    return tuple(hold for hold in holds(crew, row) if is_able(crew, row, deed, hold))


@functools.lru_cache(None)
def far_of(numbers, row, hold, other):
    return far(Crew.of(numbers), row, hold, other)


def able_holds(crew, row, deed):
    return able_of(crew.numbers, row, deed)


def all_ways(crew, row, deeds, hold=None):
    """All tuples of able holds that come in time, each with its moves."""
    rows = rows_of(row, deeds)
    ways = [((), 0, hold)]
    for here, deed in zip(rows, deeds):
        after = []
        for chosen, moves, ahead in ways:
            for other in able_holds(crew, here, deed):
                away = 0 if ahead is None else far_of(crew.numbers, here, ahead, other)
                if away <= crew.beats:
                    after.append((chosen + (other,), moves + away, behind(other, deed)))
        ways = after
    return ways


def random_deeds(rng, row, most):
    """Some deeds that fit one after the other."""
    row, deeds = tuple(row), []
    for _ in range(rng.randint(0, most)):
        kinds = [("rest",)] + [("enter", name, side) for name in "abcd" if name not in row and len(row) < 3
                               for side in ("left", "right")]
        for place, name in enumerate(row):
            kinds += [("turn", name, "any"), ("move", name, "j"), ("move", name, "j"), ("exit", name, "before")]
            if place > 0:
                kinds += [("pass", name, row[place - 1], "left", "any")] * 3
            if place < len(row) - 1:
                kinds += [("pass", name, row[place + 1], "right", "behind")] * 3
        deeds.append(rng.choice(kinds))
        row = row_after(row, deeds[-1])
    return tuple(deeds)


def random_crew(rng):
    return Crew(rng.randint(1, 3), reach=rng.randint(0, 2), beats=rng.choice((0, 1, 1, 2)))


def samples(seed, times, most=4):
    """Crews, rows and deeds."""
    rng = random.Random(seed)
    for _ in range(times):
        row = tuple(rng.sample("abcd", rng.randint(0, 3)))
        yield random_crew(rng), row, random_deeds(rng, row, most)


class AbleTest(Case):
    def test_against_each_hold(self):
        for crew, row, deeds in samples(1, 80):
            for here, deed in zip(rows_of(row, deeds), deeds):
                self.assertEqual(self.same_with_lists(lambda row, deed: able(crew, row, deed), here, deed),
                                 able_holds(crew, here, deed))

    def test_examples(self):
        crew = Crew(2, reach=1)
        alone, both = (("a",),), (("a",), ("b",))
        self.assertEqual(able(crew, ("a", "b"), MOVE_A), (alone, both))
        self.assertEqual(able(crew, ("a", "b"), ("turn", "a", "left")), (alone, both, (("a", "b"),)))
        self.assertEqual(able(crew, ("a", "b"), ("rest",)), tuple(holds(crew, ("a", "b"))))
        # The bar of the other of a pass can be on its peg.
        self.assertEqual(able(crew, ("a", "b"), ("pass", "a", "b", "right", "before")), (alone, both, (("a", "b"),)))
        self.assertEqual(able(crew, ("a", "b"), ("exit", "b", "any")), (both, (("a", "b"),), (("b",),)))

    def test_the_hold_behind_must_be_lawful(self):
        crew = Crew(1, reach=1)
        self.assertIn((("a", "b"),), able(crew, ROW, ("pass", "a", "b", "left", "any")))
        self.assertNotIn((("a", "b"),), able(crew, ROW, PASS))
        self.assertIn((("a", "b"),), able(Crew(1, reach=2), ROW, PASS))

    def test_bad_deeds(self):
        for thing in NO_ROWS + ((), ("move", "d", "j"), ("pass", "a", "b", "right", "any"), ("enter", "a", "left"),
                                ("pass", "a", None, "left", "any"), ("turn", "a", "before"), ("rest", "a")):
            self.due_as_passed(BadDeed, "deed", thing, able, Crew(1), ROW, thing)
        self.due(BadDeed(("enter", "e", "left")), able, Crew(1), ("a", "b", "c", "d"), ("enter", "e", "left"))


class CoverTest(Case):
    def check(self, crew, row, deeds, hold=None):
        cover = Cover(crew, row, deeds, hold=hold)
        layers = []
        for number in range(1, len(deeds) + 1):
            layers.append(tuple(sorted({way[0][-1] for way in all_ways(crew, row, deeds[:number], hold)})))
            if not layers[-1]:
                break
        self.assertEqual(cover.layers, tuple(layers))
        self.assertEqual(tuple(cover), cover.layers)
        self.assertEqual(len(cover), len(layers))
        ways = all_ways(crew, row, deeds, hold)
        self.assertIs(bool(cover), bool(ways))
        if ways:
            fewest = min(moves for _, moves, _ in ways)
            self.assertIsNone(cover.stuck)
            self.assertEqual(cover.fewest, fewest)
            self.assertEqual(cover.chosen, min(chosen for chosen, moves, _ in ways if moves == fewest))
        else:
            self.assertEqual(cover.stuck, len(layers) - 1)
            self.assertIsNone(cover.fewest)
            self.assertIsNone(cover.chosen)
        return cover

    def test_against_all_ways(self):
        told = set()
        for crew, row, deeds in samples(2, 150):
            told.add(bool(self.check(crew, row, deeds)))
            for hold in itertools.islice(holds(crew, row), 0, 12, 5):
                told.add((bool(self.check(crew, row, deeds, hold)), hold == ()))
        self.assertEqual(told, {True, False, (True, True), (True, False), (False, True), (False, False)})

    def test_no_deeds(self):
        for hold in (None, (), (("a",),)):
            cover = Cover(Crew(1), ROW, (), hold=hold)
            self.assertEqual((bool(cover), cover.layers, cover.stuck, cover.fewest, cover.chosen, len(cover)),
                             (True, (), None, 0, (), 0))
        self.assertIs(bool(Cover(Crew(1, reach=0, beats=0), (), (("rest",),))), True)
        self.assertEqual(Cover(Crew(1), (), (("rest",),)).layers, (((),),))

    def test_beats(self):
        deeds = (MOVE_A, MOVE_B)
        for beats, told in ((0, False), (1, False), (2, True), (3, True)):
            cover = self.check(Crew(1, beats=beats), ROW, deeds)
            self.assertIs(bool(cover), told)
            self.assertEqual(cover.stuck, None if told else 1)
        for beats, hold, told in ((0, (("a",),), True), (0, (), False), (1, (("b",),), False), (2, (("b",),), True)):
            self.assertIs(bool(self.check(Crew(1, beats=beats), ROW, (MOVE_A,), hold)), told)
        self.assertEqual(Cover(Crew(1), ROW, (MOVE_A,), hold=()).fewest, 1)
        self.assertEqual(Cover(Crew(1), ROW, (MOVE_A,)).fewest, 0)

    def test_from_the_hold_behind(self):
        # The bar of an exit is gone; the player's hand is free without a move.
        crew = Crew(1, reach=0, beats=1)
        deeds = (("exit", "a", "any"), MOVE_B)
        self.assertEqual(self.check(crew, ROW, deeds).fewest, 1)
        self.assertIs(bool(self.check(crew, ROW, (MOVE_A, MOVE_B))), False)

    def test_so_many_deeds(self):
        deeds = (("rest",),) * 60
        self.assertEqual(len(Cover(Crew(4), ROW, deeds)), 60)
        self.due(BadDeeds(-1), Cover, Crew(4), ROW, deeds + (("rest",),))

    def test_wide_rows(self):
        rng = random.Random(3)
        row = ("a", "b", "c", "d")
        deeds = []
        here = row
        for _ in range(60):
            place = rng.randrange(3)
            deeds.append(("pass", here[place], here[place + 1], "right", "any"))
            here = row_after(here, deeds[-1])
        cover = Cover(Crew(2, reach=1), row, deeds)
        self.assertIs(bool(cover), True)
        self.assertEqual(len(cover.chosen), 60)
        self.assertEqual(len(stretches(Crew(1, reach=0, beats=0), row, deeds)) > 0, True)
        moves = sum(far(Crew(2, reach=1), ahead, one, two) for ahead, one, two in zip(
            rows_of(row, deeds)[1:], cover.chosen, cover.chosen[1:]))
        self.assertEqual(cover.fewest, moves)

    def test_errors(self):
        for thing in NO_ROWS:
            self.due(BadDeeds(-1), Cover, Crew(1), ROW, thing, hold="x")
        self.due(BadDeeds(1), Cover, Crew(1), ROW, (PASS, PASS), hold=None)
        for thing in NO_HOLDS + tuple(thing for thing in NO_ROWS if thing is not None) + (
                (("d",),), (("b", "c"),), (("a",), ("b",)), [["b", "a"]]):
            self.due_as_passed(BadHold, "hold", thing, Cover, Crew(1), ROW, (), hold=thing)

    def test_lists(self):
        told = Cover(Crew(1), listed(ROW), listed((MOVE_A, PASS)), hold=[["a"]])
        self.assertEqual(told.layers, Cover(Crew(1), ROW, (MOVE_A, PASS), hold=(("a",),)).layers)
        self.assertTrue(only_tuples(told.layers) and only_tuples(told.chosen))


def right_costs(crew, row, deeds):
    """The right table, from all ways that begin with each hold."""
    rows = rows_of(row, deeds)
    table = []
    for number, (here, deed) in enumerate(zip(rows, deeds)):
        for hold in able_holds(crew, here, deed):
            ways = [moves for chosen, moves, _ in all_ways(crew, here, deeds[number:]) if chosen[0] == hold]
            table.append((number, hold, min(ways, default=-1)))
    return tuple(table)


class CostsTest(Case):
    def test_the_right_table(self):
        seen = set()
        for crew, row, deeds in samples(4, 100, 3):
            table = self.same_with_lists(lambda row, deeds: costs(crew, row, deeds), row, deeds)
            self.assertEqual(table, right_costs(crew, row, deeds))
            self.assertIsNone(judge_costs(crew, row, deeds, table))
            seen |= {row[2] for row in table}
        self.assertLessEqual({-1, 0, 1, 2}, seen)

    def test_no_deeds(self):
        self.assertEqual(costs(Crew(1), ROW, ()), ())
        self.assertIsNone(judge_costs(Crew(1), ROW, (), ()))
        self.assertEqual(judge_costs(Crew(1), ROW, (), ((0, (), 0),)), 0)
        self.due(BadDeeds(-1), costs, Crew(1), ROW, None)
        self.due(BadDeeds(0), costs, Crew(1), ROW, (None,))


class JudgeCostsTest(Case):
    def setUp(self):
        self.crew, self.row, self.deeds = Crew(1), ("a", "b"), (MOVE_A, ("turn", "b", "any"), MOVE_B)
        self.table = costs(self.crew, self.row, self.deeds)

    def judged(self, table):
        told = judge_costs(self.crew, self.row, self.deeds, table)
        self.assertEqual(judge_costs(self.crew, listed(self.row), listed(self.deeds), listed(table)), told)
        return told

    def test_the_table(self):
        self.assertEqual(self.table, (
            (0, (("a",),), 2), (1, (("a", "b"),), 1), (1, (("b",),), 0), (2, (("b",),), 0)))
        self.assertIsNone(self.judged(self.table))
        self.assertIsNone(self.judged(self.table[::-1]))
        self.assertIsNone(self.judged(self.table * 2))

    def test_a_row_left_out(self):
        for number in range(4):
            self.assertEqual(self.judged(self.table[:number] + self.table[number + 1:]), -1)
            self.assertEqual(self.judged((None,) + self.table[:number] + self.table[number + 1:]), -1)

    def test_a_row_put_in(self):
        for row in ((3, (("b",),), 0), (-1, (("b",),), 0), (0, (), -1), (0, (("b",),), 2), (2, (("a", "b"),), 0),
                    (1, (("a",), ("b",)), 0), (0, (("c",),), 0)):
            for number in range(5):
                self.assertEqual(self.judged(self.table[:number] + (row,) + self.table[number:]), number)

    def test_a_wrong_cost(self):
        # A row that is changed is wrong itself, unless one ahead of it is wrong by it.
        for number, cost, wrong in ((0, 1, 0), (0, -1, 0), (0, 3, 0), (1, 0, 0), (1, 2, 0), (2, 1, 2), (2, -1, 2),
                                    (3, 1, 1), (3, -1, 1), (3, -2, 1)):
            deed, hold, _ = self.table[number]
            self.assertEqual(self.judged(self.table[:number] + ((deed, hold, cost),) + self.table[number + 1:]), wrong)

    def test_the_first_of_several_rows_counts(self):
        deed, hold, cost = self.table[2]
        self.assertEqual(self.judged(self.table + ((deed, hold, 7),)), 4)
        self.assertEqual(self.judged(((deed, hold, 7),) + self.table), 0)
        self.assertEqual(self.judged(self.table[:1] + ((2, (("b",),), 5),) + self.table[1:]), 1)
        # Now the rows ahead of it fit the cost 5 alone, and it is wrong itself.
        self.assertEqual(self.judged(((0, (("a",),), 7), (1, (("a", "b"),), 6), (1, (("b",),), 5), (2, (("b",),), 5))), 3)

    def test_rows_of_any_kind(self):
        for thing in NO_ROWS + ((), (0, (("a",),)), (0, (("a",),), 2, 0), (True, (("b",),), 0), (0, (("a",),), True),
                                (0, (("a",),), None), (0, "a", 2), (0, ("a",), 2), ("0", (("a",),), 2), (None, (), 0),
                                (0, (("a", "a"),), 2), (0.0, (("a",),), 2), (0, (("a",),), 2.0)):
            self.assertEqual(self.judged((thing,) + self.table), 0)
            self.assertEqual(self.judged(self.table + (thing,)), 4)
            self.assertEqual(self.judged((thing,) + self.table[1:]), -1)

    def test_a_row_that_cannot_go_on(self):
        crew = Crew(1, beats=0)
        table = costs(crew, self.row, (MOVE_A, MOVE_B))
        self.assertEqual(table, ((0, (("a",),), -1), (1, (("b",),), 0)))
        self.assertIsNone(judge_costs(crew, self.row, (MOVE_A, MOVE_B), table))
        # A cost of -1 is left out, whatever moves lead there.
        self.assertEqual(judge_costs(crew, self.row, (MOVE_A, MOVE_B), ((0, (("a",),), 0), table[1])), 0)

    def test_bad_deeds_go_ahead(self):
        self.due(BadDeeds(-1), judge_costs, self.crew, self.row, None, None)
        self.due(BadDeeds(1), judge_costs, self.crew, self.row, (MOVE_A, ("move", "c", "j")), None)


class StretchesTest(Case):
    def test_against_all_stretches(self):
        many = 0
        for crew, row, deeds in samples(5, 150, 6):
            rows = rows_of(row, deeds)
            covered = {(first, last): bool(all_ways(crew, rows[first], deeds[first:last + 1]))
                       for first in range(len(deeds)) for last in range(first, len(deeds))}
            least = sorted(pair for pair, told in covered.items() if not told and all(
                inner or other == pair for other, inner in covered.items()
                if pair[0] <= other[0] and other[1] <= pair[1]))
            told = self.same_with_lists(lambda row, deeds: stretches(crew, row, deeds), row, deeds)
            self.assertEqual(told, tuple(least))
            self.assertIs(bool(Cover(crew, row, deeds)), not least)
            many += len(least) > 1
        self.assertGreater(many, 3)

    def test_an_example(self):
        crew = Crew(1, beats=1)
        self.assertEqual(stretches(crew, ROW, (MOVE_A, ("rest",), MOVE_B, MOVE_A, ("rest",))), ((2, 3),))
        self.assertEqual(stretches(crew, ROW, (MOVE_A, MOVE_B, MOVE_A)), ((0, 1), (1, 2)))
        self.assertEqual(stretches(crew, ROW, ()), ())

    def test_fewest_players(self):
        told = set()
        for crew, row, deeds in samples(6, 80):
            wanted = [players for players in (1, 2, 3, 4) if all_ways(crew.changed(players=players), row, deeds)]
            told.add(self.same_with_lists(lambda row, deeds: fewest_players(crew, row, deeds), row, deeds))
            self.assertEqual(fewest_players(crew, row, deeds), wanted[0] if wanted else None)
        self.assertLessEqual({1, 2}, told)
        row = ("a", "b", "c", "d")
        moves = tuple(("move", name, "j") for name in row)
        still = Crew(1, reach=3, beats=0)
        for many in range(5):
            self.assertEqual(fewest_players(still, row, moves[:many]), max(many, 1))
        self.assertIsNone(fewest_players(still, row, (MOVE_A, ("exit", "a", "any"), ("enter", "a", "left"), MOVE_A)))

    def test_bad_deeds(self):
        for call in (stretches, fewest_players):
            self.due(BadDeeds(-1), call, Crew(1), ROW, (("rest",),) * 61)
            self.due(BadDeeds(1), call, Crew(1), ROW, (PASS, PASS))
            self.due(BadDeeds(0), call, Crew(1), ROW, (None,))
            self.assertIn(call(Crew(1), ROW, (("rest",),) * 60), ((), 1))
