"""Point 42: matinees, their prices, and tables of prices."""

import itertools
import random

from freestrung.casts import Cast
from freestrung.crews import Crew
from freestrung.errors import BadScenes, BadStanding, TooMany
from freestrung.flows import flow
from freestrung.orders import Cheapest, judge_prices
from freestrung.outcomes import cheap_outcomes
from freestrung.playings import moves_of, play_on
from freestrung.scenes import Book
from freestrung.standings import is_standing, picture_of, standing_of
from tests.helpers import KQF, NO_ROWS, Case, listed, only_tuples, troupe
from tests.models import is_whole, tupled
from tests.samples import PUPPETS, random_body
from tests.samples import random_crew as some_crew

TWO = (("king", "queen"), (0, 0))
REST = (("rest",),)
TURN = {"k": (("turn", "king", "any"),), "q": (("turn", "queen", "any"),), "b": (("turn", "king", "any"), ("turn", "queen", "any")),
        "e": (), "bad": (("turn", "fool", "any"),), "r": REST}


def book(scenes=None, cast=None):
    return Book(cast or troupe(), tuple((scenes or TURN).items()))


def orders_model(book, crew, standing, scenes):
    """For each order of the numbers of the scenes that can be played, its price."""
    prices = {}
    for order in itertools.permutations(range(len(scenes))):
        sums = {standing: 0}
        for number in order:
            behind = {}
            for here, paid in sums.items():
                shown = flow(book, scenes[number], picture_of(here))
                for after, moves, _ in cheap_outcomes(crew, here, shown.deeds) if shown else ():
                    behind[after] = min(paid + moves, behind.get(after, paid + moves))
            sums = behind
        if sums:
            prices[order] = min(sums.values())
    return prices


def table_model(book, crew, standing, scenes):
    """The table that is told, with each price found by trying all orders."""
    found = [(tuple(range(len(scenes))), standing)]
    for left, here in found:
        for number in left:
            shown = flow(book, scenes[number], picture_of(here))
            others = tuple(other for other in left if other != number)
            for after, _, _ in cheap_outcomes(crew, here, shown.deeds) if shown else ():
                found += [(others, after)] if (others, after) not in found else []
    rows = []
    for left, here in found:
        prices = orders_model(book, crew, here, tuple(scenes[number] for number in left))
        rows.append((left, here, min(prices.values(), default=-1)))
    return tuple(rows)


def judge_model(book, crew, standing, scenes, table):
    everything = range(len(scenes))

    def formed(row):
        if not isinstance(row, (list, tuple)) or len(row) != 3 or not isinstance(row[0], (list, tuple)):
            return None
        if not all(is_whole(number) and number in everything for number in row[0]) or sorted(set(row[0])) != list(row[0]):
            return None
        if not is_standing(row[1], crew) or not all(name in book.cast for name in row[1][0]) or not is_whole(row[2]):
            return None
        return tupled(row)

    rows = [formed(row) for row in table]
    first = {row[:2]: row[2] for row in reversed(rows) if row is not None}
    if (tuple(everything), standing) not in first:
        return -1
    for number, row in enumerate(rows):
        if row is None:
            return number
        left, here, price = row
        told = []
        for scene in left:
            shown = flow(book, scenes[scene], picture_of(here))
            others = tuple(other for other in left if other != scene)
            for after, moves, _ in cheap_outcomes(crew, here, shown.deeds) if shown else ():
                if (others, after) not in first:
                    return number
                told += [moves + first[others, after]] if first[others, after] != -1 else []
        if price != (min(told, default=-1) if left else 0):
            return number
    return None


def matinees(seed, many):
    rng = random.Random(seed)
    while many > 0:
        names = PUPPETS[:rng.randint(1, 3)]
        cast = Cast(tuple((name, ("hand", "fan")) for name in names))
        bodies = {"s" + letter: random_body(rng, names) for letter in "uvwx"[:rng.randint(1, 4)]}
        if rng.random() < 0.5:
            bodies["s" + rng.choice("uvy")] = (("pass", names[0], rng.choice(("left", "right")), rng.choice(("before", "any"))),)
        row = tuple(rng.sample(names, rng.randint(len(names) - 1, len(names))))
        standing = standing_of((row, tuple(rng.randint(0, 1) for _ in row)))
        scenes = tuple(rng.sample(sorted(bodies), rng.randint(1, min(3, len(bodies)))))
        crew = some_crew(rng)
        try:
            cheapest = Cheapest(book(bodies, cast), crew, standing, scenes)
        except TooMany:
            continue
        if len(cheapest.table) <= 120:
            many -= 1
            yield rng, book(bodies, cast), crew, standing, scenes, cheapest


class CheapestTest(Case):
    def test_a_small_matinee(self):
        here = TWO + ((0, 0), ((1,), (2,)), (("queen",),))
        cheapest = Cheapest(book(), Crew(1, reach=0, beats=2, winds=0), here, ("k", "q"))
        self.assertIs(bool(cheapest), True)
        self.assertEqual((cheapest.price, cheapest.order), (2, ("q", "k")))
        self.assertEqual([[way[0] for way in playing] for playing in cheapest.playings],
                         [[(("queen",),)], [(("king",),)]])
        self.assertEqual(cheapest.table[0], ((0, 1), here, 2))
        self.assertEqual((len(cheapest), tuple(cheapest)), (len(cheapest.table), cheapest.table))

    def test_the_first_of_orders_with_one_price(self):
        here = standing_of(TWO)
        for scenes, order in ((("e", "r", "k"), ("e", "r", "k")), (("k", "e", "r"), ("k", "e", "r")), (("r", "k", "e"),) * 2):
            cheapest = Cheapest(book(), Crew(2), here, scenes)
            self.assertEqual((cheapest.order, cheapest.price), (order, 1))

    def test_no_order(self):
        here = standing_of(TWO)
        for crew, scenes in ((Crew(1, beats=0), ("k",)), (Crew(1), ("bad",)), (Crew(1), ("k", "bad")), (Crew(1, beats=0), ("e", "q"))):
            cheapest = Cheapest(book(), crew, here, scenes)
            self.assertIs(bool(cheapest), False)
            self.assertEqual((cheapest.price, cheapest.order, cheapest.playings), (None, None, None))
            self.assertEqual(cheapest.table[0], (tuple(range(len(scenes))), here, -1))
            self.assertEqual(tuple(cheapest), cheapest.table)
            self.assertIsNone(judge_prices(book(), crew, here, scenes, cheapest.table))

    def test_an_order_that_only_comes_behind(self):
        """A scene whose flow ends only behind another one."""
        scenes = {"come": (("enter", "fool", "left"),), "bad": (("turn", "fool", "any"),)}
        cheapest = Cheapest(book(scenes), Crew(1), standing_of(TWO), ("bad", "come"))
        self.assertEqual((cheapest.order, cheapest.price), (("come", "bad"), 1))

    def test_dearer_ways_that_lead_to_no_end(self):
        """Behind the exit the king cannot turn, whatever more was done with the queen's bar."""
        scenes = {"x": (("exit", "king", "any"),), "t": (("turn", "king", "any"),)}
        here = TWO + ((0, 0), ((1,), (2,)), (("king",),))
        for players in (1, 2, 3):
            cheapest = Cheapest(book(scenes), Crew(players), here, ("x", "t"))
            self.assertEqual((cheapest.price, cheapest.order), (0, ("t", "x")))
            self.assertEqual([[way[0] for way in playing] for playing in cheapest.playings], [[(("king",),)]] * 2)

    def test_against_all_orders(self):
        told = [0, 0]
        for _, stories, crew, standing, scenes, cheapest in matinees(120, 90):
            prices = orders_model(stories, crew, standing, scenes)
            told[bool(prices)] += len(scenes) > 1
            self.assertIs(bool(cheapest), bool(prices))
            if prices:
                price = min(prices.values())
                order = min(order for order, paid in prices.items() if paid == price)
                self.assertEqual((cheapest.price, cheapest.order), (price, tuple(scenes[number] for number in order)))
                self.played(stories, crew, standing, cheapest)
            self.assertTrue(only_tuples((cheapest.order, cheapest.playings, cheapest.table)))
            lists = Cheapest(stories, crew, listed(standing), list(scenes))
            self.assertEqual((lists.price, lists.order, lists.playings, lists.table),
                             (cheapest.price, cheapest.order, cheapest.playings, cheapest.table))
        self.assertGreater(min(told), 8)

    def played(self, stories, crew, here, cheapest):
        paid = 0
        self.assertEqual(len(cheapest.playings), len(cheapest.order))
        for scene, playing in zip(cheapest.order, cheapest.playings):
            shown = flow(stories, scene, picture_of(here))
            self.assertTrue(shown)
            paid += moves_of(crew, here, shown.deeds, playing)
            here = play_on(crew, here, shown.deeds, playing)
        self.assertEqual(paid, cheapest.price)

    def test_the_table(self):
        sizes = []
        for _, stories, crew, standing, scenes, cheapest in matinees(121, 60):
            if len(cheapest.table) <= 60:
                self.assertEqual(cheapest.table, table_model(stories, crew, standing, scenes))
                sizes.append(len(cheapest.table))
        self.assertGreater(max(sizes), 20)

    def test_dead_ends(self):
        """What is cheap at first can lead where no order goes on; and the cheapest order need not begin cheaply."""
        scenes = {"k": (("turn", "king", "any"),), "b": (("turn", "king", "any"), ("turn", "queen", "any"))}
        here = standing_of(TWO)
        for crew in (Crew(1, reach=1, beats=1, winds=0), Crew(2, reach=0, beats=1), Crew(1, beats=2, winds=0)):
            cheapest = Cheapest(book(scenes), crew, here, ("k", "b"))
            prices = orders_model(book(scenes), crew, here, ("k", "b"))
            self.assertEqual(cheapest.price, min(prices.values(), default=None))
        self.assertFalse(Cheapest(book(scenes), Crew(1, reach=1, beats=1, winds=0), here, ("b", "k")))

    def test_one_and_four_scenes(self):
        here = standing_of(TWO)
        self.assertEqual(Cheapest(book(), Crew(1), here, ("e",)).price, 0)
        self.assertEqual(Cheapest(book(), Crew(2), here, ("e", "r", "k", "q")).order, ("e", "r", "k", "q"))
        self.due(BadScenes(-1), Cheapest, book(), Crew(1), here, ())
        self.due(BadScenes(-1), Cheapest, book(), Crew(1), here, ("e", "r", "k", "q", "b"))

    def test_six_hundred_positions(self):
        here = standing_of(KQF)
        left = ("turn", "queen", "left")
        just = {"a": (), "b": (left, left), "c": REST * 2, "d": (("turn", "fool", "any"),)}
        crew = Crew(3, reach=2, beats=1, bears=0, winds=3)
        self.assertEqual(len(Cheapest(book(just), crew, here, tuple("abcd")).table), 600)
        over = {"a": REST, "b": REST, "c": (("turn", "queen", "any"),), "d": (("turn", "queen", "any"), left)}
        crew = Crew(3, reach=1, beats=3, bears=0, winds=3)
        self.due(TooMany("position"), Cheapest, book(over), crew, here, tuple("abcd"))
        self.assertLess(len(Cheapest(book(over), crew, here, tuple("abc")).table), 600)

    def test_too_many_standings(self):
        turns = (("repeat", 3, tuple(("turn", name, "any") for name in KQF[0])),)
        scenes = {"t": turns, "e": ()}
        self.due(TooMany("standing"), Cheapest, book(scenes), Crew(3, beats=3, winds=3), standing_of(KQF), ("e", "t"))

    def test_errors_in_order(self):
        here = standing_of(TWO)
        strange = (("king", "ghost"), (0, 0), (0, 0), ((1,), (2,)), ())
        for call in (Cheapest, lambda *told: judge_prices(*told, ())):
            for thing in NO_ROWS + (strange, strange[:1] + (None,) + strange[2:]):
                self.due(BadStanding("row"), call, book(), Crew(1), thing, None)
            self.due(BadStanding("faces"), call, book(), Crew(1), here[:1] + ((0, 2),) + here[2:], None)
            self.due(BadStanding("winds"), call, book(), Crew(1, winds=0), here[:2] + ((0, 1),) + here[3:], None)
            self.due(BadStanding("lie"), call, book(), Crew(1), here[:3] + ((), ()), None)
            self.due(BadStanding("hold"), call, book(), Crew(1), here[:4] + ((("king",), ("queen",)),), None)
            for thing in NO_ROWS + ((), ("e",) * 5):
                self.due(BadScenes(-1), call, book(), Crew(1), here, thing)
            for scenes, number in ((("x",), 0), (("e", "e"), 1), (("e", "x", "e"), 1), ((None,), 0), (("e", ["k"]), 1),
                                   (("e", "k", "r", "k"), 3), ((True,), 0), ((0,), 0)):
                self.due(BadScenes(number), call, book(), Crew(1), here, scenes)


class JudgeTest(Case):
    def check(self, *told):
        wanted = judge_model(*told)
        self.assertEqual(judge_prices(*told), wanted)
        self.assertEqual(judge_prices(*told[:2], listed(told[2]), listed(told[3]), listed(told[4])), wanted)
        return wanted

    def test_tables_that_are_told(self):
        wrong = 0
        for rng, stories, crew, standing, scenes, cheapest in matinees(122, 60):
            table = cheapest.table
            if len(table) > 40:
                continue
            given = (stories, crew, standing, scenes)
            self.assertIsNone(self.check(*given, table))
            self.assertIsNone(self.check(*given, table[::-1] + table[:2]))
            for _ in range(4):
                number = rng.randrange(len(table))
                left, here, price = table[number]
                other = rng.choice(((left, here, price + 1), (left, here, -1), (left, here, 0), (left[1:], here, price), None,
                                    (left, here), (left, rng.choice(table)[1], price), (left, here[:4] + ((),), price),
                                    (left[::-1], here, price), (left, here, None), (left, here, True), (left, None, price)))
                for rows in (table[:number] + (other,) + table[number + 1:], table[:number] + table[number + 1:],
                             (other,) + table, table + (other,)):
                    wrong += self.check(*given, rows) is not None
        self.assertGreater(wrong, 250)

    def small(self):
        here = standing_of(TWO)
        return book(), Crew(1), here, ("r", "k")

    def test_the_beginning(self):
        given = self.small()
        table = Cheapest(*given).table
        self.assertEqual(judge_prices(*given, table[1:]), -1)
        self.assertIsNone(judge_prices(*given, table[1:] + table[:1]))
        for rows in ((), [], (None,), (((1, 0),) + table[0][1:],), (((0,),) + table[0][1:],), (table[0][:2] + (None,),)):
            self.assertEqual(judge_prices(*given, rows), -1)

    def test_rows_without_the_form(self):
        given = self.small()
        table = Cheapest(*given).table
        here = given[2]
        strange = (("ghost",), (0,), (0,), ((1,),), ())
        for thing in NO_ROWS + (((), here), ((), here, 0, 0), ((0, 0), here, 0), ((1, 0), here, 0), ((2,), here, 0), ((-1,), here, 0),
                                ((True,), here, 0), ("k", here, 0), (None, here, 0), (("k",), here, 0), ((), None, 0), ((), strange, 0),
                                ((), here[:4], 0), ((), here, None), ((), here, False), ((), here, "0"), (0, here, 0)):
            self.assertEqual(judge_prices(*given, table + (thing, thing)), len(table))
        self.assertIsNone(judge_prices(*given, table + (((), here, 0), ([], listed(here), 0))))

    def test_numbers_that_are_there_twice(self):
        given = (book(), Crew(1), standing_of(TWO), ("e", "r"))
        table = Cheapest(*given).table
        self.assertIsNone(judge_prices(*given, table))
        here = given[2]
        self.assertIn(((), here, 0), table)
        for left in ((0, 0), (1, 1), (0, 0, 1)):
            self.assertEqual(judge_prices(*given, table + ((left, here, 0),)), len(table))

    def test_the_first_such_row_counts(self):
        given = self.small()
        table = Cheapest(*given).table
        at, (left, here, price) = [(number, row) for number, row in enumerate(table) if row[0] == (1,)][0]
        wrong = (left, here, price + 1)
        self.assertEqual(judge_prices(*given, table + (wrong,)), len(table))
        self.assertEqual(self.check(*given, (wrong,) + table), 0)
        self.assertEqual(self.check(*given, table[:at] + (wrong,) + table[at:]), self.check(
            *given, table[:at] + (wrong,) + table[at + 1:]))

    def test_only_rows_with_minus_one_are_left_out(self):
        given = (book(), Crew(1), standing_of(TWO), ("k",))
        table = Cheapest(*given).table
        behind = [row[:2] for row in table[1:]]
        none = tuple(position + (-1,) for position in behind)
        self.assertEqual(judge_prices(*given, (table[0][:2] + (-1,),) + none), 1)
        deep = tuple(position + (-7,) for position in behind)
        self.assertEqual(judge_prices(*given, (table[0][:2] + (-6,),) + deep), 1)
        self.assertEqual(judge_prices(*given, table[:1] + deep), 0)

    def test_outcomes_that_are_too_many(self):
        turns = (("repeat", 3, tuple(("turn", name, "any") for name in KQF[0])),)
        stories = book({"t": turns, "r": REST})
        crew, here = Crew(3, beats=3, winds=3), standing_of(KQF)
        self.due(TooMany("standing"), judge_prices, stories, crew, here, ("t", "r"), (((0, 1), here, 0),))
        self.assertEqual(judge_prices(stories, crew, here, ("r", "t"), (((0, 1), here, 0),)), 0)
        self.assertEqual(judge_prices(stories, crew, here, ("t", "r"), (None, ((0, 1), here, 0))), 0)
        self.assertEqual(judge_prices(stories, crew, here, ("t", "r"), (((0,), here, 0),)), -1)
        self.assertEqual(judge_prices(stories, crew, here, ("t", "r"), (((), here, 1), ((0, 1), here, 0))), 0)
