"""Point 29: clearings, and lots of standings that are never cleared."""

from freestrung.clearing import Clearing, judge_lot
from freestrung.crews import Crew
from freestrung.errors import BadStanding, TooMany
from freestrung.handlings import handlings, played
from freestrung.lies import Lie
from freestrung.stages import Stage
from freestrung.standings import standing_of
from freestrung.tangles import straight_words
from tests.helpers import NO_ROWS, Case, listed, only_tuples
from tests.test_handlings import of_two, random_standings

REST = ("rest",)
HEAVY = ((-4, 1, 4), (-4, -1, 4, 1, -3, 2, 3, -1, -4, 1, 4), (-4, -1, 4, 1, -3, -2, 3, 2, 3, -1, -4, 1, 4),
         (-4, -1, 4, 1, 4))

# Crews and lies of which a straight one comes about just as the 300th, 301st and 302nd standing.
CLEARED = (
    (300, (1, 0, 1, 28, 0), HEAVY, 6),
    (301, (1, 0, 3, 56, 0), (
        (1, 2, 3, -2, 1, 2, -3, -2, -1, 2, 1, 2, 3, -2, 1, 2, -3, -2, -1, -2, 1, 2, 3, -2, -1, 2, -3, -2, -1),
        (1, 2, 3, -2, 1, 2, -3, -2, -1, 2, 1, 2, 3, -2, -1, 2, -3, -2, -1), (-2, 1, 2, 3, -2, -1, 2)), 4),
    (302, (2, 1, 3, 20, 0), ((-2, -1, -2, 1, 2, 1, 2), (-2, -1, -2, -1, 2, 1, 2, 1, 2), (-4, 3, 4),
                             (-4, -3, 4, 3, 4)), None),
)

# Its every passing is too heavy for a crew that bears just this, but for two cords on which nothing lies.
LOCKED = ((1, -4, 2, 3, 4, 1, -4, -3, -2, 4, -1), (1, -4, 2, 4, -1), (1, -4, 3, 4, -1), (-4, -3, -2, 4, 2, 3, 4))
LOCKED_CREW = Crew(4, reach=3, beats=2, bears=24, winds=0)


def hanging(words, hold=()):
    many = len(words)
    return (tuple("abcd"[:many]), (0,) * many, (0,) * many, words, hold)


def deeds_model(row):
    found = []
    for place in range(len(row)):
        for side, other in (("left", place - 1), ("right", place + 1)):
            if 0 <= other < len(row):
                found.append(("pass", row[place], row[other], side, "any"))
    return found + [REST]


def is_clear(standing):
    return standing[3] == straight_words(len(standing[0]))


def clearing_model(crew, standing):
    """The row of a clearing, or None, and all standings that were found."""
    rows = {standing: ()}
    for here in [standing] if not is_clear(standing) else []:
        todo = [here]
        for here in todo:
            for deed in deeds_model(here[0]):
                for way in handlings(crew, here, deed):
                    after = played(crew, here, deed, way)
                    if after not in rows:
                        rows[after] = rows[here] + ((deed, way),)
                        todo.append(after)
                        if is_clear(after):
                            return rows[after], tuple(rows)
                        if len(rows) > 300:
                            raise TooMany("standing")
        return None, tuple(rows)
    return (), (standing,)


class ClearingTest(Case):
    def test_of_two_cords(self):
        here = of_two(((1, 2, 1, -2, -1), (1, 2, -1)), hold=(("a",), ("b",)))
        clearing = Clearing(Crew(2), here)
        hold = (("a",), ("b",))
        self.assertIs(bool(clearing), True)
        self.assertIsNone(clearing.lot)
        self.assertEqual(clearing.row, ((("pass", "a", "b", "right", "any"), (hold, "before", "behind")),))
        self.assertEqual((len(clearing), tuple(clearing)), (1, clearing.row))

    def test_a_straight_lie(self):
        for here in (of_two(), of_two(winds=(1, 0)), standing_of(((), ())), of_two(hold=(("a",),))):
            clearing = Clearing(Crew(1), listed(here))
            self.assertEqual((bool(clearing), clearing.row, clearing.lot), (True, (), None))
            self.assertEqual((len(clearing), list(clearing)), (0, []))

    def test_nothing_but_rests(self):
        here = of_two(Lie.rounded(2, 0).words)
        clearing = Clearing(Crew(1, beats=0), here)
        self.assertEqual((bool(clearing), clearing.row, clearing.lot), (False, None, (here,)))
        self.assertEqual((len(clearing), list(clearing)), (1, [here]))

    def test_against_the_definition(self):
        told = {"clear": 0, "never": 0, "many": 0}
        for _, crew, standing in random_standings(71, 500):
            if is_clear(standing):
                continue
            try:
                row, lot = clearing_model(crew, standing)
            except TooMany as why:
                self.due(why, Clearing, crew, standing)
                told["many"] += 1
                continue
            clearing = Clearing(crew, listed(standing))
            self.assertEqual(clearing.row, row)
            self.assertEqual(clearing.lot, None if row is not None else lot)
            self.assertEqual(tuple(clearing), lot if row is None else row)
            self.assertEqual(len(clearing), len(tuple(clearing)))
            self.assertIs(bool(clearing), row is not None)
            self.assertTrue(only_tuples(tuple(clearing)))
            if row is None:
                told["never"] += 1
                self.assertIsNone(judge_lot(crew, lot))
                self.assertIsNone(judge_lot(crew, listed(lot)))
            else:
                told["clear"] += len(row) > 1
                stage = Stage(crew, standing)
                for deed, way in row:
                    stage.do(deed, way)
                self.assertTrue(is_clear(stage.standing))
        self.assertGreater(told["clear"], 5)
        self.assertGreater(told["never"], 1)

    def test_as_few_pairs_as_can_be(self):
        crew = Crew(2, bears=6)
        here = of_two(((1, 2, 1, -2, -1), (1, 2, -1)))
        layer = {here}
        for many in range(len(Clearing(crew, here).row)):
            self.assertFalse(any(is_clear(standing) for standing in layer))
            layer = {played(crew, standing, deed, way) for standing in layer for deed in deeds_model(standing[0])
                     for way in handlings(crew, standing, deed)}
        self.assertTrue(any(is_clear(standing) for standing in layer))

    def test_the_last_standing_that_is_allowed(self):
        for number, numbers, words, many in CLEARED:
            crew, here = Crew.of(numbers), hanging(words)
            if many is None:
                self.due(TooMany("standing"), Clearing, crew, here)
            else:
                row, found = clearing_model(crew, here) if number == 300 else (Clearing(crew, here).row, ())
                self.assertIn(len(found), (0, number))
                self.assertEqual(len(Clearing(crew, here)), many)
                self.assertEqual(Clearing(crew, here).row, row)

    def test_winds_go_along(self):
        here = of_two(Lie.straight(2).passed(0, "before", "behind").words, (1, -1))
        stage = Stage(Crew(2), here)
        for deed, way in Clearing(Crew(2), here):
            stage.do(deed, way)
        self.assertEqual(sorted(stage.standing[2]), [-1, 1])

    def test_errors(self):
        for thing in NO_ROWS:
            self.due(BadStanding("row"), Clearing, Crew(1), thing)
        self.due(BadStanding("lie"), Clearing, Crew(1, bears=1), of_two(Lie.rounded(2, 0).words))
        self.due(BadStanding("hold"), Clearing, Crew(1, reach=0), of_two(hold=(("a", "b"),)))


class LotTest(Case):
    def test_a_lot_that_is_closed(self):
        clearing = Clearing(LOCKED_CREW, hanging(LOCKED))
        self.assertIsNone(clearing.row)
        self.assertEqual(len(clearing), 86)
        self.assertIsNone(judge_lot(LOCKED_CREW, clearing.lot))
        self.assertIsNone(judge_lot(LOCKED_CREW, clearing.lot[::-1]))
        self.assertIsNone(judge_lot(LOCKED_CREW, clearing.lot + clearing.lot[:3]))
        self.assertIsNone(judge_lot(LOCKED_CREW, ()))
        self.assertIsNone(judge_lot(LOCKED_CREW, []))

    def test_one_left_out(self):
        lot = Clearing(LOCKED_CREW, hanging(LOCKED)).lot
        for number in range(0, len(lot), 17):
            rest = lot[:number] + lot[number + 1:]
            self.assertEqual(judge_lot(LOCKED_CREW, rest), self.first_leading_out(LOCKED_CREW, rest))
            self.assertIsNotNone(judge_lot(LOCKED_CREW, rest))

    def first_leading_out(self, crew, lot):
        for number, here in enumerate(lot):
            for deed in deeds_model(here[0]):
                if any(played(crew, here, deed, way) not in lot for way in handlings(crew, here, deed)):
                    return number
        return None

    def test_what_is_wrong(self):
        crew = Crew(1, beats=0)
        here = of_two(Lie.rounded(2, 0).words)
        held = of_two(Lie.rounded(2, 0).words, hold=(("a",),))
        self.assertIsNone(judge_lot(crew, (here, here)))
        for thing in NO_ROWS + (here[:4], of_two(Lie.rounded(2, 0).words, (2, 0)), of_two(((1, 2, -1), (1, 2))),
                                of_two(), standing_of(((), ())), held):
            self.assertEqual(judge_lot(crew, (here, thing, here, thing)), 1)
            self.assertEqual(judge_lot(crew, (thing,)), 0)

    def test_whoever_wrote_it(self):
        """A lot may have more than what comes of one standing, and more than three hundred."""
        crew = Crew(1, beats=0, winds=3)
        words = Lie.rounded(2, 0).words
        lot = tuple((("a", "b"), faces, (one, other), words, ()) for faces in ((0, 0), (0, 1), (1, 0), (1, 1))
                    for one in range(-3, 4) for other in range(-3, 4))
        lot += tuple((("c", "b"),) + standing[1:] for standing in lot)
        self.assertGreater(len(lot), 300)
        self.assertIsNone(judge_lot(crew, lot))
        self.assertEqual(judge_lot(crew, lot + (of_two(),)), len(lot))
