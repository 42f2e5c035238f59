"""Point 8: plans, how they are judged, rows of calls, evenings."""

import unittest

from freestrung.errors import BadCall, BadPlan, BadRow, Stray, TooMany, Unknown
from freestrung.plans import Plan
from tests.helpers import NO_NAMES, NO_ROWS, Case, listed, only_tuples

CALLS = (("aa", "duel", "bb"), ("bb", "bow", "cc"), ("bb", "duel", "aa"), ("cc", "bow", "bb"), ("aa", "bow", "aa"))
NUMBERS = ("0", 1.0, True, False, None, (1,), [0], -1, -5, 5, 10 ** 39)


def named(many):
    """So many different names."""
    return tuple("n" + "abcdefghij"[number // 10] + "abcdefghij"[number % 10] for number in range(many))


def chain(many):
    """The calls of a row of so many nodes."""
    nodes = named(many)
    return tuple((node, "duel", behind) for node, behind in zip(nodes, nodes[1:]))


class PlanTest(Case):
    def plan(self):
        return Plan("aa", ("cc", "aa"), CALLS)

    def test_what_a_plan_tells(self):
        plan = self.plan()
        self.assertEqual((plan.first, plan.ends, plan.calls), ("aa", ("cc", "aa"), CALLS))
        self.assertEqual(plan.nodes, ("aa", "bb", "cc"))
        self.assertEqual(plan[0], CALLS[0])
        self.assertEqual(plan[4], CALLS[4])
        self.assertEqual(len(plan), 5)
        self.assertEqual(list(plan), list(CALLS))
        self.assertEqual([plan.calls_at(node) for node in plan.nodes], [(0, 4), (1, 2), (3,)])
        self.assertEqual([plan.is_end(node) for node in plan.nodes], [True, False, True])

    def test_the_order_of_the_nodes(self):
        calls = (("cc", "s", "dd"), ("aa", "s", "cc"), ("dd", "s", "bb"), ("dd", "s", "ee"))
        self.assertEqual(Plan("aa", ("ee", "bb"), calls).nodes, ("aa", "cc", "dd", "bb", "ee"))
        self.assertEqual(Plan("aa", ("aa",), ()).nodes, ("aa",))
        self.assertEqual(len(Plan("aa", ("aa",), ())), 0)

    def test_no_number_of_a_call(self):
        for thing in NUMBERS:
            self.due_as_passed(BadCall, "number", thing, self.plan().__getitem__, thing)
        self.due(BadCall(0), Plan("aa", ("aa",), ()).__getitem__, 0)

    def test_what_is_in_it(self):
        plan = self.plan()
        self.assertIs("bb" in plan, True)
        for thing in NO_NAMES + NO_ROWS + ("dd", "duel", CALLS[0]):
            self.assertIs(thing in plan, False)
            self.due_as_passed(Unknown, "name", thing, plan.calls_at, thing)
            self.due_as_passed(Unknown, "name", thing, plan.is_end, thing)

    def test_first(self):
        for thing in NO_NAMES:
            self.due(BadPlan("first"), Plan, thing, (), None)

    def test_ends(self):
        for thing in NO_ROWS + ((), ("aa", "aa"), ("aa", "end"), ("aa", 1), (("aa",),)):
            self.due(BadPlan("ends"), Plan, "aa", thing, None)
        calls = tuple(("aa", "s", node) for node in named(39))
        self.assertEqual(len(Plan("aa", ("aa",) + named(39), calls).ends), 40)
        self.due(BadPlan("ends"), Plan, "aa", ("aa",) + named(40), calls + (("aa", "s", named(40)[39]),))

    def test_calls(self):
        good = ("aa", "s", "aa")
        for call in NO_ROWS + ((), ("aa", "s"), good + ("aa",), ("aa", "end", "aa"), ("aa", "s", 1), (None, "s", "aa")):
            self.due(BadPlan("calls"), Plan, "aa", ("aa",), (good, call))
        for thing in NO_ROWS + ((good, good), (good, list(good)), (good, ("aa", "t", "aa"), good)):
            self.due(BadPlan("calls"), Plan, "aa", ("aa",), thing)

    def test_how_many_calls(self):
        nodes = named(8)
        calls = tuple((node, scene, behind) for scene in ("s", "t") for node in nodes for behind in nodes)
        self.assertEqual(len(Plan(nodes[0], nodes[:1], calls[:120]).calls), 120)
        self.due(BadPlan("calls"), Plan, nodes[0], nodes[:1], calls[:121])

    def test_how_many_nodes(self):
        self.assertEqual(len(Plan("naa", named(40)[39:], chain(40)).nodes), 40)
        self.due(TooMany("node"), Plan, "naa", named(41)[40:], chain(41))
        self.due(TooMany("node"), Plan, "aa", named(40), ())
        self.due(Stray("aa"), Plan, "aa", named(39), ())

    def test_strays(self):
        self.due(Stray("aa"), Plan, "aa", ("bb",), ())
        self.due(Stray("bb"), Plan, "aa", ("aa", "bb"), ())
        self.due(Stray("bb"), Plan, "aa", ("aa",), (("aa", "s", "bb"),))
        self.due(Stray("bb"), Plan, "aa", ("aa",), (("bb", "s", "aa"),))
        self.due(Stray("cc"), Plan, "aa", ("bb",), (("aa", "s", "bb"), ("aa", "s", "cc"), ("cc", "s", "dd"),
                                                    ("dd", "s", "cc")))
        self.due(Stray("dd"), Plan, "aa", ("bb", "cc"), (("aa", "s", "bb"), ("dd", "s", "cc"), ("cc", "s", "dd")))
        self.due(Stray("bb"), Plan, "aa", ("aa", "cc"), (("bb", "s", "bb"),))
        self.due(Stray("bb"), Plan, "aa", ("aa",), (("bb", "s", "bb"), ("bb", "s", "aa")))
        Plan("aa", ("bb",), (("aa", "s", "bb"), ("bb", "s", "cc"), ("cc", "s", "cc"), ("cc", "s", "aa")))

    def test_order(self):
        self.due(BadPlan("first"), Plan, 1, 1, 1)
        self.due(BadPlan("ends"), Plan, "aa", 1, 1)
        self.due(BadPlan("calls"), Plan, "aa", ("bb",), chain(41) + chain(2))
        self.due(TooMany("node"), Plan, "aa", ("bb",), chain(41))

    def test_equal(self):
        self.assertEqual(self.plan(), Plan("aa", ["cc", "aa"], listed(CALLS)))
        self.assertNotEqual(self.plan(), Plan("bb", ("cc", "aa"), CALLS))
        self.assertNotEqual(self.plan(), Plan("aa", ("aa", "cc"), CALLS))
        self.assertNotEqual(self.plan(), Plan("aa", ("cc", "aa"), CALLS[:4]))
        self.assertIs(self.plan() == CALLS, False)

    def test_lists(self):
        ends, calls = ["cc", "aa"], listed(CALLS)
        plan = Plan("aa", ends, calls)
        self.assertEqual((plan.ends, plan.calls), (("cc", "aa"), CALLS))
        self.assertTrue(only_tuples(plan.calls) and only_tuples(plan[0]) and only_tuples(plan.nodes))
        self.assertEqual((ends, calls), (["cc", "aa"], listed(CALLS)))


class RowsTest(Case):
    def plan(self):
        return Plan("aa", ("cc",), CALLS)

    def test_where_rows_lead(self):
        for row, node in (((), "aa"), ((0,), "bb"), ((4, 4, 0, 1), "cc"), ((0, 1, 3, 2, 4), "aa"), ((0, 2), "aa")):
            self.assertEqual(self.same_with_lists(self.plan().node_behind, row), node)
            self.assertIs(self.same_with_lists(self.plan().is_evening, row), node == "cc")

    def test_an_empty_evening(self):
        self.assertIs(Plan("aa", ("aa",), ()).is_evening(()), True)

    def test_bad_rows(self):
        for row, number in (
            ((1,), 0), ((0, 0), 1), ((0, 1, 1), 2), ((0, 1, 3, 3), 3), ((0, 1, 2), 2), ((5,), 0), ((0, -1), 1),
            ((0, True), 1), ((False,), 0), ((0, 1.0), 1), (("0",), 0), (((0,),), 0), ((0, None, 7), 1), ((4, 1, 9), 1),
            ((-1,), 0), ((4, -1), 1), ((4, 10 ** 39), 1),
        ):
            for call in (self.plan().node_behind, self.plan().is_evening):
                self.due(BadRow(number), call, row)
                self.due(BadRow(number), call, list(row))
        for thing in NO_ROWS:
            self.due(BadRow(-1), self.plan().node_behind, thing)
            self.due(BadRow(-1), self.plan().is_evening, thing)


if __name__ == "__main__":
    unittest.main()
