"""Point 26: handlings, the words that are due, and the standing behind a deed."""

import functools
import itertools
import random

from freestrung.crews import Crew
from freestrung.errors import BadDeed, BadStanding, Unplayable
from freestrung.free import is_free
from freestrung.handlings import handlings, played, why_not
from freestrung.holds import behind, far, holds, is_alone, is_held, is_hold, lawful
from freestrung.lies import Lie
from freestrung.pictures import acted
from freestrung.standings import is_standing, standing_of
from tests.helpers import NO_ROWS, Case, listed, only_tuples
from tests.test_holds import NO_HOLDS

WAYS = ("before", "behind")
OTHER = {"before": "behind", "behind": "before"}
CHOICES = {"pass": (WAYS, WAYS), "turn": (("along", "still"), ("left", "right")), "exit": ((None,), WAYS)}
PASS = ("pass", "a", "b", "right", "any")
NOTHING = (None, None)


def of_two(words=((1,), (2,)), winds=(0, 0), hold=()):
    """A standing of a and b."""
    return (("a", "b"), (0, 0), winds, words, hold)


def choices(deed):
    return list(itertools.product(*CHOICES.get(deed[0], ((None,), (None,)))))


@functools.lru_cache(None)
def moves_between(numbers, row, hold, other):
    return far(Crew.of(numbers), row, hold, other)


def lie_behind(standing, deed, top, shown):
    row, lie = standing[0], Lie(standing[3])
    if deed[0] == "pass":
        place = min(row.index(deed[1]), row.index(deed[2]))
        if row.index(deed[1]) > place:
            top, shown = OTHER[top], OTHER[shown]
        return lie.passed(place, top, shown)
    if deed[0] == "exit":
        return lie.thinned(tuple(place for place, name in enumerate(row) if name != deed[1]))
    if deed[0] == "enter":
        return Lie.straight(1) + lie if deed[2] == "left" else lie + Lie.straight(1)
    return lie


def standing_behind(standing, deed, handling):
    row, faces, winds, _, _ = standing
    hold, top, shown = handling
    after, faces_after = acted((row, faces), deed)
    told = dict(zip(row, winds))
    if top == "still":
        told[deed[1]] += 1 if shown == "left" else -1
    return (after, faces_after, tuple(told.get(name, 0) for name in after),
            lie_behind(standing, deed, top, shown).words, behind(hold, deed))


def is_formed(deed, handling):
    if not isinstance(handling, tuple) or len(handling) != 3 or not is_hold(handling[0]):
        return False
    return handling[1:] in choices(deed)


def words_due(crew, standing, deed, handling):
    """All words that are due for a handling that has its form, in order."""
    row, _, winds, words, held = standing
    hold, top, shown = handling
    kind, puppet = deed[0], deed[1] if len(deed) > 1 else None
    told = []
    if kind in ("pass", "turn", "exit") and deed[-1] not in ("any", shown):
        told.append("script")
    if not lawful(crew, row, hold):
        return told + ["hold"]
    if moves_between(crew.numbers, row, held, hold) > crew.beats:
        told.append("far")
    if kind in ("pass", "turn", "move", "exit") and not is_held(hold, puppet):
        told.append("bar")
    if (kind == "move" or top == "along") and not is_alone(hold, puppet):
        told.append("alone")
    if kind == "pass" and top == "before" and not is_held(hold, deed[2]):
        told.append("other")
    after = standing_behind(standing, deed, handling)
    if not lawful(crew, after[0], after[4]):
        told.append("reach")
    place = row.index(puppet) if puppet in row else None
    if top == "still" and abs(after[2][place]) > crew.winds or kind == "move" and winds[place] != 0:
        told.append("wind")
    lie = Lie(words)
    if kind == "move" and any(lie.twist(place, other) != 0 for other in range(len(row)) if other != place):
        told.append("tied")
    if kind == "exit" and not is_free(lie, place, shown):
        told.append("tied")
    if kind == "pass" and Lie(after[3]).weight > crew.bears:
        told.append("heavy")
    return told


def deeds_at(row):
    """All deeds of a few kinds that fit a row."""
    found = [("rest",)] + [("enter", name, side) for name in "abcd" if name not in row and len(row) < 4
                           for side in ("left", "right")]
    for place, name in enumerate(row):
        found += [("turn", name, way) for way in ("left", "right", "any")] + [("move", name, "j")]
        found += [("exit", name, way) for way in ("before", "any")]
        for side, other in (("left", place - 1), ("right", place + 1)):
            if 0 <= other < len(row):
                found += [("pass", name, row[other], side, way) for way in ("before", "behind", "any")]
    return found


def random_crew(rng):
    return Crew(rng.randint(1, 3), reach=rng.randint(0, 2), beats=rng.randint(0, 2), bears=rng.choice((0, 4, 6, 12)),
                winds=rng.randint(0, 2))


def random_standings(seed, times):
    """Crews and standings for them, of up to three puppets, many with cords across one another."""
    rng = random.Random(seed)
    while times > 0:
        crew, many = random_crew(rng), rng.randint(0, 3)
        row = tuple(rng.sample("abcd", many))
        lie = Lie.straight(many)
        for _ in range(rng.randint(0, 3) if many > 1 else 0):
            lie = lie.passed(rng.randrange(many - 1), rng.choice(WAYS), rng.choice(WAYS))
        winds = tuple(rng.randint(-crew.winds, crew.winds) if rng.random() < 0.5 else 0 for _ in row)
        standing = (row, tuple(rng.randint(0, 1) for _ in row), winds, lie.words, rng.choice(list(holds(crew, row))))
        if lie.weight <= crew.bears:
            times -= 1
            yield rng, crew, standing


class AgainstTheModelTest(Case):
    def test_the_word_that_counts(self):
        seen = set()
        for rng, crew, standing in random_standings(1, 60):
            wide = list(holds(Crew(4, reach=3), standing[0]))
            for deed in deeds_at(standing[0]):
                for _ in range(6):
                    handling = (rng.choice(wide),) + rng.choice(choices(deed))
                    told = words_due(crew, standing, deed, handling)
                    self.assertEqual(why_not(crew, standing, deed, handling), told[0] if told else None)
                    seen |= {(deed[0], word) for word in told[:1]}
                    if told:
                        self.due(Unplayable(0, told[0]), played, crew, standing, deed, handling)
                    else:
                        self.assertEqual(played(crew, standing, deed, handling),
                                         standing_behind(standing, deed, handling))
        for kind, words in (("pass", "script hold far bar other reach heavy"), ("turn", "script hold far bar alone wind"),
                            ("move", "hold far bar alone wind tied"), ("exit", "script hold far bar tied"),
                            ("enter", "hold far"), ("rest", "hold far")):
            self.assertEqual({word for told, word in seen if told == kind}, set(words.split(" ")))

    def test_all_handlings_in_order(self):
        many = 0
        for _, crew, standing in random_standings(2, 45):
            row, held = standing[0], standing[4]
            for deed in deeds_at(row):
                wanted = [(hold,) + choice for hold in holds(crew, row) for choice in choices(deed)
                          if not words_due(crew, standing, deed, (hold,) + choice)]
                wanted = sorted(wanted, key=lambda told: (
                    moves_between(crew.numbers, row, held, told[0]), told[0], told[1] or "", told[2] or ""))
                found = list(handlings(crew, standing, deed))
                self.assertEqual(found, wanted)
                many += len(found)
                for handling in found[:5]:
                    after = played(crew, standing, deed, handling)
                    self.assertIs(is_standing(after, crew), True)
                    self.assertTrue(only_tuples(handling))
        self.assertGreater(many, 1000)


class WordsTest(Case):
    """Each word for each kind of deed, and which of two counts."""

    def due_word(self, word, crew, standing, deed, handling):
        self.assertEqual(why_not(crew, standing, deed, handling), word)
        self.assertEqual(why_not(crew, listed(standing), listed(deed), listed(handling)), word)
        if word is not None:
            self.due(Unplayable(0, word), played, crew, standing, deed, handling)
            self.assertNotIn(handling, list(handlings(crew, standing, deed)))
        else:
            self.assertEqual(played(crew, listed(standing), listed(deed), listed(handling)),
                             played(crew, standing, deed, handling))

    def test_form(self):
        crew, standing = Crew(4, reach=3, beats=3), of_two()
        hold = (("a",), ("b",))
        fine = {PASS: ("before", "behind"), ("turn", "a", "any"): ("along", "left"), ("move", "a", "j"): NOTHING,
                ("exit", "a", "any"): (None, "before"), ("enter", "c", "left"): NOTHING, ("rest",): NOTHING}
        things = ("before", "behind", "left", "right", "along", "still", None, "any", "", 0, True, ("before",), "-")
        for deed, ways in fine.items():
            self.due_word(None, crew, standing, deed, (hold,) + ways)
            for top, shown in itertools.product(things, repeat=2):
                if (top, shown) not in choices(deed):
                    self.due_word("form", crew, standing, deed, (hold, top, shown))
            for thing in NO_ROWS + ((), (hold,), (hold, ways[0]), (hold,) + ways + (None,)):
                self.due_word("form", crew, standing, deed, thing)
            for thing in NO_HOLDS + NO_ROWS:
                self.due_word("form", crew, standing, deed, (thing,) + ways)

    def test_form_ahead_of_script(self):
        self.due_word("form", Crew(1), of_two(), ("turn", "a", "left"), ((("b", "a"),), "along", "right"))
        self.due_word("form", Crew(1), of_two(), ("exit", "a", "before"), ((("a",),), "before", "behind"))

    def test_script(self):
        crew = Crew(1)
        for deed, top, shown in ((PASS[:4] + ("before",), "behind", "behind"), (PASS[:4] + ("behind",), "behind", "before"),
                                 (("turn", "a", "left"), "still", "right"), (("turn", "a", "right"), "still", "left"),
                                 (("exit", "a", "before"), None, "behind"), (("exit", "a", "behind"), None, "before")):
            self.due_word("script", crew, of_two(), deed, ((("a",),), top, shown))
            self.due_word("script", crew, of_two(), deed, ((("c",),), top, shown))
            self.due_word(None, crew, of_two(), deed, ((("a",),), top, deed[-1]))

    def test_hold(self):
        for deed in deeds_at(("a", "b")):
            top, shown = choices(deed)[0]
            shown = deed[-1] if deed[-1] in ("left", "right", "before", "behind") and shown is not None else shown
            for hold in ((("c",),), (("a",), ("b",)), (("a", "d"),)):
                self.due_word("hold", Crew(1, beats=0), of_two(), deed, (hold, top, shown))
            self.due_word("hold", Crew(4, reach=0, beats=0), of_two(), deed, ((("a", "b"),), top, shown))

    def test_far(self):
        for deed in deeds_at(("a", "b")):
            top, shown = choices(deed)[0]
            shown = deed[-1] if deed[-1] in ("left", "right", "before", "behind") and shown is not None else shown
            self.due_word("far", Crew(2, beats=0), of_two(), deed, ((("b",),), top, shown))
            self.due_word("far", Crew(2, beats=1), of_two(), deed, ((("a",), ("b",)), top, shown))
        self.due_word(None, Crew(2, beats=2), of_two(), ("rest",), ((("a",), ("b",)),) + NOTHING)
        self.due_word(None, Crew(2, beats=0), of_two(hold=(("b",),)), ("rest",), ((("b",),),) + NOTHING)

    def test_bar(self):
        crew = Crew(2, beats=1)
        for deed, top, shown in ((PASS, "behind", "before"), (("turn", "a", "any"), "still", "left"),
                                 (("move", "a", "j"), None, None), (("exit", "a", "any"), None, "before")):
            self.due_word("bar", crew, of_two(), deed, ((), top, shown))
            self.due_word("bar", crew, of_two(), deed, ((("b",),), top, shown))
            self.due_word(None, crew, of_two(), deed, ((("a",),), top, shown))
        # Ahead of the words behind it.
        self.due_word("bar", crew, of_two(), ("turn", "a", "any"), ((), "along", "left"))
        self.due_word("bar", crew, of_two(), PASS, ((), "before", "before"))
        for deed in (("enter", "c", "left"), ("rest",)):
            self.due_word(None, crew, of_two(), deed, ((),) + NOTHING)

    def test_alone(self):
        crew, both = Crew(1), (("a", "b"),)
        standing = of_two(hold=both)
        self.due_word("alone", crew, standing, ("move", "a", "j"), (both,) + NOTHING)
        self.due_word("alone", crew, standing, ("turn", "b", "any"), (both, "along", "right"))
        self.due_word(None, crew, standing, ("turn", "b", "any"), (both, "still", "right"))
        self.due_word(None, crew, standing, PASS, (both, "before", "before"))
        self.due_word(None, crew, standing, ("exit", "a", "any"), (both, None, "behind"))
        # Ahead of the wind.
        self.due_word("alone", crew, of_two(winds=(1, 0), hold=both), ("move", "a", "j"), (both,) + NOTHING)

    def test_other(self):
        crew = Crew(2)
        self.due_word("other", crew, of_two(), PASS, ((("a",),), "before", "before"))
        self.due_word(None, crew, of_two(), PASS, ((("a",),), "behind", "before"))
        self.due_word(None, crew, of_two(hold=(("a",),)), PASS, ((("a",), ("b",)), "before", "before"))
        # Ahead of the reach and the weight.
        row = ("c", "a", "b")
        standing = (row, (0, 0, 0), (0, 0, 0), ((1,), (2,), (3,)), (("a", "c"),))
        self.due_word("other", Crew(2, bears=0), standing, PASS, ((("a", "c"),), "before", "behind"))
        self.due_word("reach", Crew(2, bears=0), standing, PASS, ((("a", "c"),), "behind", "before"))
        self.due_word("heavy", Crew(2, reach=2, bears=0), standing, PASS, ((("a", "c"),), "behind", "before"))

    def test_reach(self):
        row = ("c", "a", "b")
        for reach, word in ((1, "reach"), (2, None)):
            standing = (row, (0, 0, 0), (0, 0, 0), ((1,), (2,), (3,)), (("a", "c"),))
            self.due_word(word, Crew(1, reach=reach), standing, PASS, ((("a", "c"),), "behind", "behind"))
        row = ("c", "a", "d", "b")
        standing = (row, (0,) * 4, (0,) * 4, Lie.straight(4).words, (("a", "c"), ("b", "d")))
        # An exit brings bars together, and never apart.
        self.assertEqual(played(Crew(2), standing, ("exit", "d", "any"), ((("a", "c"), ("b", "d")), None, "before"))[4],
                         (("a", "c"), ("b",)))

    def test_wind(self):
        for winds in range(4):
            crew, alone = Crew(1, winds=winds), (("a",),)
            for wind in range(-winds, winds + 1):
                standing = of_two(winds=(wind, winds), hold=alone)
                for shown, step in (("left", 1), ("right", -1)):
                    word = None if abs(wind + step) <= winds else "wind"
                    self.due_word(word, crew, standing, ("turn", "a", "any"), (alone, "still", shown))
                    self.due_word(None, crew, standing, ("turn", "a", "any"), (alone, "along", shown))
                self.due_word(None if wind == 0 else "wind", crew, standing, ("move", "a", "j"), (alone,) + NOTHING)

    def test_tied(self):
        crew, around, alone = Crew(1, bears=60), Lie.rounded(2, 0).words, (("a",),)
        for deed in (("move", "a", "j"), ("move", "b", "j")):
            hold = ((deed[1],),)
            self.due_word("tied", crew, of_two(around, hold=hold), deed, (hold,) + NOTHING)
            self.due_word("wind", crew, of_two(around, (1, 1), hold), deed, (hold,) + NOTHING)
        for shown in WAYS:
            self.due_word("tied", crew, of_two(around, (1, 1), alone), ("exit", "a", "any"), (alone, None, shown))
            self.due_word(None, crew, of_two(winds=(1, 1), hold=alone), ("exit", "a", "any"), (alone, None, shown))

    def test_a_twist_of_nought_ties_no_joints(self):
        # A lie of three cords that is not straight, though no two of them are twisted.
        left, right = Lie.rounded(3, 0), Lie.rounded(3, 1)
        lie = left * right * left.back() * right.back()
        standing = (("a", "b", "c"), (0, 0, 0), (0, 0, 0), lie.words, (("a",),))
        crew = Crew(1, bears=60)
        self.due_word(None, crew, standing, ("move", "a", "j"), ((("a",),),) + NOTHING)
        self.due_word("tied", crew, standing, ("exit", "a", "any"), ((("a",),), None, "before"))

    def test_free_in_one_way(self):
        rng = random.Random(3)
        found = 0
        while found < 4:
            lie = Lie.straight(3)
            for _ in range(3):
                lie = lie.passed(rng.randrange(2), rng.choice(WAYS), rng.choice(WAYS))
            ways = [way for way in WAYS if is_free(lie, 1, way)]
            if len(ways) == 1 and lie.weight <= 60:
                found += 1
                standing = (("a", "b", "c"), (0, 0, 0), (0, 0, 0), lie.words, (("b",),))
                hold = (("b",),)
                self.due_word(None, Crew(1, bears=60), standing, ("exit", "b", "any"), (hold, None, ways[0]))
                self.due_word("tied", Crew(1, bears=60), standing, ("exit", "b", "any"), (hold, None, OTHER[ways[0]]))

    def test_heavy(self):
        both = (("a",), ("b",))
        for bears, word in ((5, "heavy"), (6, None), (7, None)):
            crew = Crew(2, bears=bears)
            self.due_word(word, crew, of_two(hold=both), PASS, (both, "behind", "before"))
            self.due_word(word, crew, of_two(hold=both), PASS, (both, "before", "behind"))
            self.due_word(None, crew, of_two(hold=both), PASS, (both, "before", "before"))
        # A heavy lie that a pass makes lighter, and a pass only.
        around = Lie.rounded(2, 0).words
        crew = Crew(2, bears=6)
        self.due_word(None, crew, of_two(around, hold=both), PASS, (both, "before", "before"))
        self.due_word("heavy", Crew(2, bears=0), of_two(hold=both), ("pass", "b", "a", "left", "any"),
                      (both, "before", "behind"))


class StandingBehindTest(Case):
    def test_passes(self):
        both = (("a",), ("b",))
        standing = (("a", "b"), (0, 1), (1, -1), ((1,), (2,)), both)
        crew = Crew(2, bears=60)
        for puppet, other, side in (("a", "b", "right"), ("b", "a", "left")):
            for top, shown in itertools.product(WAYS, WAYS):
                after = played(crew, standing, ("pass", puppet, other, side, "any"), (both, top, shown))
                ways = (top, shown) if side == "right" else (OTHER[top], OTHER[shown])
                self.assertEqual(after, (("b", "a"), (1, 0), (-1, 1), Lie.straight(2).passed(0, *ways).words, both))

    def test_a_pass_at_its_place(self):
        row = ("a", "b", "c", "d")
        standing = (row, (0,) * 4, (0, 1, 0, 1), Lie.straight(4).words, (("c",),))
        after = played(Crew(1, bears=60), standing, ("pass", "c", "b", "left", "any"), ((("c",),), "behind", "before"))
        self.assertEqual(after, (("a", "c", "b", "d"), (0,) * 4, (0, 0, 1, 1),
                                 Lie.straight(4).passed(1, "before", "behind").words, (("c",),)))

    def test_turns(self):
        hold = (("b",),)
        standing = (("a", "b"), (0, 1), (1, -1), Lie.rounded(2, 0).words, hold)
        for top, shown, wind in (("still", "left", 0), ("along", "left", -1), ("along", "right", -1)):
            after = played(Crew(1), standing, ("turn", "b", shown), (hold, top, shown))
            self.assertEqual(after, (("a", "b"), (0, 0), (1, wind), standing[3], hold))
        self.assertEqual(played(Crew(1, winds=2), standing, ("turn", "b", "any"), (hold, "still", "right"))[2], (1, -2))

    def test_exits(self):
        around = Lie.rounded(3, 1).words
        standing = (("a", "b", "c"), (1, 0, 1), (1, 0, -1), around, (("a", "b"),))
        after = played(Crew(1), standing, ("exit", "a", "any"), ((("a", "b"),), None, "before"))
        self.assertEqual(after, (("b", "c"), (0, 1), (0, -1), Lie.rounded(2, 0).words, (("b",),)))
        last = (("a",), (1,), (1,), ((1,),), (("a",),))
        self.assertEqual(played(Crew(1), last, ("exit", "a", "before"), ((("a",),), None, "before")), ((),) * 5)

    def test_enters(self):
        around = Lie.rounded(2, 0).words
        standing = of_two(around, (1, -1), (("a",),))
        for side, row, faces, winds, words in (
            ("left", ("c", "a", "b"), (0, 0, 0), (0, 1, -1), Lie.rounded(3, 1).words),
            ("right", ("a", "b", "c"), (0, 0, 0), (1, -1, 0), Lie.rounded(3, 0).words),
        ):
            after = played(Crew(1), standing, ("enter", "c", side), ((("a",),),) + NOTHING)
            self.assertEqual(after, (row, faces, winds, words, (("a",),)))
        self.assertEqual(played(Crew(1), ((),) * 5, ("enter", "a", "left"), ((),) + NOTHING),
                         standing_of((("a",), (0,))))

    def test_moves_and_rests(self):
        standing = of_two(winds=(0, 1))
        for deed in (("move", "a", "j"), ("rest",)):
            self.assertEqual(played(Crew(1), standing, deed, ((("a",),),) + NOTHING), standing[:4] + ((("a",),),))

    def test_an_empty_row(self):
        empty = ((),) * 5
        self.assertEqual(list(handlings(Crew(4, reach=3, beats=3), empty, ("rest",))), [((), None, None)])
        self.assertEqual(played(Crew(1), empty, ("rest",), ((), None, None)), empty)


class ErrorsTest(Case):
    def calls(self):
        return ((why_not, (None,)), (played, (None,)), (lambda *told: list(handlings(*told)), ()))

    def test_bad_standings(self):
        crew = Crew(1, reach=1, bears=6, winds=1)
        good = of_two()
        for part, things in (
            (0, NO_ROWS + ((), ("a",) * 2, ("a", "end"), ("a", "b", "c", "d", "e"))), (1, ((), (0, 2), (0, True), None)),
            (2, ((), (0, 2), (0, -2), (0, True), None)),
            (3, ((), ((2,), (1,)), ((1, 2, -1), (1,)), Lie.of(2, ((0, "before"),) * 4).words, None)),
            (4, ((("c",),), (("a",), ("b",)), (("b", "a"),), None)),
        ):
            for thing in things:
                word = ("row", "faces", "winds", "lie", "hold")[part] if thing != () or part else "faces"
                standing = good[:part] + (thing,) + good[part + 1:]
                for call, more in self.calls():
                    self.due(BadStanding(word), call, crew, standing, None, *more)
        for thing in NO_ROWS + ((), good[:4], good + ((),)):
            for call, more in self.calls():
                self.due(BadStanding("row"), call, crew, thing, None, *more)
        for call, more in self.calls():
            self.due(BadStanding("faces"), call, crew, (("a", "b"), None, None, None, None), None, *more)
            self.due(BadStanding("winds"), call, crew, (("a", "b"), (0, 0), None, None, None), None, *more)
            self.due(BadStanding("lie"), call, crew, (("a", "b"), (0, 0), (0, 0), None, None), None, *more)

    def test_standings_at_the_bounds_of_the_crew(self):
        around = Lie.rounded(2, 0).words
        for crew, standing, word in (
            (Crew(1, bears=6), of_two(around), None), (Crew(1, bears=5), of_two(around), "lie"),
            (Crew(1, winds=2), of_two(winds=(2, -2)), None), (Crew(1, winds=2), of_two(winds=(2, -3)), "winds"),
            (Crew(1, reach=1), of_two(hold=(("a", "b"),)), None), (Crew(4, reach=0), of_two(hold=(("a", "b"),)), "hold"),
        ):
            if word is None:
                self.assertIsNone(why_not(crew, standing, ("rest",), (standing[4], None, None)))
            else:
                self.due(BadStanding(word), why_not, crew, standing, ("rest",), (standing[4], None, None))

    def test_bad_deeds(self):
        for thing in NO_ROWS + ((), ("pass", "a", "b", "left", "any"), ("turn", "c", "any"), ("enter", "a", "left"),
                                ("move", "a"), ("turn", "a", "before"), ("rest", None)):
            for call, more in self.calls():
                self.due_as_passed(BadDeed, "deed", thing, call, Crew(1), of_two(), thing, *more)
        row = ("a", "b", "c", "d")
        full = (row, (0,) * 4, (0,) * 4, Lie.straight(4).words, ())
        self.due(BadDeed(("enter", "e", "left")), why_not, Crew(1), full, ("enter", "e", "left"), None)

    def test_a_generator_does_nothing_at_first(self):
        handlings(None, None, None)

    def test_lists_are_left_as_they_are(self):
        crew = Crew(2)
        standing = of_two(Lie.rounded(2, 0).words, (1, 0), (("a",),))
        for deed in deeds_at(("a", "b")):
            for handling in list(handlings(crew, standing, deed))[:6]:
                self.same_with_lists(lambda *told: played(crew, *told), standing, deed, handling)
            self.same_with_lists(lambda *told: tuple(handlings(crew, *told)), standing, deed)
