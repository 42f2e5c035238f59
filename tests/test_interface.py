"""The opening part of the interface: every name where it is listed, with the arguments told."""

import importlib
import inspect
import unittest

FUNCTIONS = """
names is_name(thing)
pictures is_picture(thing, cast=None)
pictures pictures(cast)
pictures holds_in(picture, test)
pictures fits(picture, deed)
pictures acted(picture, deed)
scenetext write_book(book)
scenetext read_book(lines)
flows flow(book, scene, picture)
flows written_out(book, scene)
playtext write_play(play)
playtext read_play(lines)
words reduced(letters)
words back(word)
words joined(*words)
holds is_hold(thing)
holds lawful(crew, row, hold)
holds holds(crew, row)
holds next_holds(crew, row, hold)
holds far(crew, row, hold, other)
holds path(crew, row, hold, other)
holds is_held(hold, name)
holds is_alone(hold, name)
holds behind(hold, deed)
standings is_standing(thing, crew=None)
standings standing_of(picture)
standings is_free_standing(standing)
standings picture_of(standing)
standings lie_of(standing)
sound judge_pictures(play, table)
seen events(picture, deeds)
seen shows_of(events)
seen shows_in(play, row)
scenealike endings(book, scene)
showalike lot_of(play, events)
showalike has_show(play, events)
showalike show_counts(play, most)
crossings crossings(lie)
crossings unwinding(lie)
wires strung(lie, wires, winds=None)
wires unstrung(lie, wires)
free led_to_end(lie, place, way, side='left')
free hangs_apart(lie, side)
free is_free(lie, place, way)
cores exits(lie)
cores core(lie)
cores can_leave(lie, row)
snags hangs_straight(lie, places)
snags snags(lie)
snags hung_anew(lie)
snags frees(lie, places)
everylie test_lies(cords)
covers able(crew, row, deed)
costs costs(crew, row, deeds)
costs judge_costs(crew, row, deeds, table)
stretches stretches(crew, row, deeds)
stretches fewest_players(crew, row, deeds)
handlings why_not(crew, standing, deed, handling)
handlings played(crew, standing, deed, handling)
handlings handlings(crew, standing, deed)
playings judge_playing(crew, standing, deeds, playing)
playings play_on(crew, standing, deeds, playing)
playings moves_of(crew, standing, deeds, playing)
playings passings_of(crew, standing, deeds, playing)
stages tried(stage, pairs)
outcomes outcomes(crew, standing, deeds)
outcomes lot_behind(crew, lot, deeds)
outcomes cheap_outcomes(crew, standing, deeds)
clearing judge_lot(crew, lot)
evenings evenings(play, most)
evenings evening_counts(play, most)
evenings lot_after(play, crew, row)
known judge_lots(play, crew, table)
arena positions(play, crew)
arena answers(play, crew, position, call)
arena may_end(play, crew, position)
judges judge_crew(play, crew, table)
judges judge_caller(play, crew, table)
notice fewest_notice(play, crew)
leastcrews crews_between(low, high)
leastcrews least_crews(play, low, high)
mends possible_mends(book)
mends mended(book, mends)
mends fewest_mends(play, crew, most)
prompts write_prompt(table)
prompts read_prompt(lines)
nights prompted(night, prompter, calls)
falls fallen(crew, position)
falls judge_falls(play, crew, most, table)
falls most_falls(play, crew)
orders judge_prices(book, crew, standing, scenes, table)
journal write_journal(night)
journal read_journal(lines)
journal taken_up(lines)
"""

OPERATORS = {
    ("casts", "Cast"): "__getitem__ __contains__ __len__ __iter__ __eq__ __add__",
    ("crews", "Crew"): "__eq__",
    ("scenes", "Book"): "__getitem__ __contains__ __len__ __iter__ __eq__ __add__",
    ("flows", "Flow"): "__len__ __iter__ __eq__ __bool__",
    ("plans", "Plan"): "__getitem__ __contains__ __len__ __iter__ __eq__",
    ("plays", "Play"): "__eq__",
    ("lies", "Lie"): "__len__ __getitem__ __iter__ __eq__ __bool__ __mul__ __add__ __neg__",
    ("sound", "Sound"): "__len__ __iter__ __bool__ __contains__",
    ("scenealike", "SceneAlike"): "__bool__",
    ("showalike", "PlayAlike"): "__bool__",
    ("everylie", "Passings"): "__call__ __len__ __iter__ __eq__ __add__",
    ("everylie", "EveryLie"): "__bool__",
    ("covers", "Cover"): "__bool__ __len__ __iter__",
    ("stages", "Stage"): "__eq__",
    ("stages", "Trial"): "__enter__ __exit__",
    ("clearing", "Clearing"): "__bool__ __len__ __iter__",
    ("known", "Known"): "__bool__ __len__ __iter__",
    ("fixed", "Fixed"): "__bool__ __len__ __iter__",
    ("called", "Called"): "__bool__ __getitem__ __len__ __iter__ __contains__",
    ("notice", "Noticed"): "__len__ __iter__",
    ("prompts", "Prompter"): "__call__ __len__ __iter__ __contains__",
    ("nights", "Night"): "__eq__",
    ("falls", "Falls"): "__bool__ __len__ __iter__",
    ("orders", "Cheapest"): "__bool__ __len__ __iter__",
}

METHODS = """
casts Cast __init__(self, puppets)
casts Cast index_of(self, name)
crews Crew __init__(self, players, *, reach=1, beats=1, bears=6, winds=1)
crews Crew covers(self, other)
crews Crew changed(self, **numbers)
crews Crew of(numbers)
scenes Book __init__(self, cast, scenes)
scenes Book statements(self, name)
scenes Book calls_of(self, name)
plans Plan __init__(self, first, ends, calls)
plans Plan calls_at(self, node)
plans Plan is_end(self, node)
plans Plan node_behind(self, row)
plans Plan is_evening(self, row)
plays Play __init__(self, book, plan, opening)
plays Play flow(self, call, picture)
plays Play changed(self, **parts)
plays Play picture_behind(self, row)
lies Lie __init__(self, words)
lies Lie below(self, place, way)
lies Lie above(self, place, way)
lies Lie passed(self, place, top, shown)
lies Lie back(self)
lies Lie thinned(self, places)
lies Lie twist(self, one, other)
lies Lie of(cords, crossings)
lies Lie straight(cords)
lies Lie rounded(cords, place)
lies Lie is_one(thing)
sound Sound __init__(self, play)
scenealike SceneAlike __init__(self, book, scene, other, other_scene)
showalike PlayAlike __init__(self, play, other)
everylie Passings __init__(self, cords, row)
everylie Passings __call__(self, lie)
everylie Passings back(self)
everylie EveryLie __init__(self, first, second)
everylie EveryLie parting(self)
covers Cover __init__(self, crew, row, deeds, *, hold=None)
stages Stage __init__(self, crew, standing)
stages Stage put(self, standing)
stages Stage do(self, deed, handling)
stages Stage undo(self)
stages Stage copy(self)
stages Trial __init__(self, stage)
clearing Clearing __init__(self, crew, standing)
known Known __init__(self, play, crew)
fixed Fixed __init__(self, play, crew, playings)
called Called __init__(self, play, crew)
called Called rank(self, position)
notice Noticed __init__(self, play, scenes)
notice Noticed meaning_of(self, node)
prompts Prompter __init__(self, play, crew, table)
prompts Prompter __call__(self, position, call)
nights Night __init__(self, play, crew)
nights Night call(self, number)
nights Night do(self, handling)
nights Night play_call(self, number, playing)
nights Night curtain(self)
nights Night copy(self)
falls Falls __init__(self, play, crew, most)
orders Cheapest __init__(self, book, crew, standing, scenes)
"""

PROPERTIES = """
casts Cast wires
crews Crew numbers
plans Plan nodes
plays Play beginning
lies Lie tops
lies Lie even
lies Lie weight
scenealike SceneAlike same
everylie Passings places
stages Stage standing
stages Stage view
stages Stage done
stages Stage moves
nights Night at
nights Night due
nights Night log
nights Night events
nights Night over
"""

STATIC = (("Crew", "of"), ("Lie", "of"), ("Lie", "straight"), ("Lie", "rounded"), ("Lie", "is_one"))
GENERATORS = (("pictures", "pictures"), ("holds", "holds"), ("seen", "shows_of"), ("crossings", "unwinding"),
              ("handlings", "handlings"), ("evenings", "evenings"), ("leastcrews", "crews_between"))


def rows(text):
    return [line.split(" ", 2) for line in text.strip().split("\n")]


def module(name):
    return importlib.import_module(f"freestrung.{name}")


class InterfaceTest(unittest.TestCase):
    def test_functions(self):
        for line in FUNCTIONS.strip().split("\n"):
            place, told = line.split(" ", 1)
            name, arguments = told.split("(", 1)
            function = getattr(module(place), name)
            self.assertTrue(inspect.isfunction(function))
            self.assertEqual(function.__module__, f"freestrung.{place}")
            self.assertEqual(str(inspect.signature(function)), f"({arguments}")

    def test_classes_and_methods(self):
        for place, kind, told in rows(METHODS):
            name, arguments = told.split("(", 1)
            owner = getattr(module(place), kind)
            self.assertEqual(owner.__module__, f"freestrung.{place}")
            own = vars(owner)[name]
            self.assertEqual(isinstance(own, staticmethod), (kind, name) in STATIC)
            function = own.__func__ if isinstance(own, staticmethod) else own
            self.assertEqual(str(inspect.signature(function)), f"({arguments}")

    def test_operators_stand_in_the_classes(self):
        for (place, kind), names in OPERATORS.items():
            for name in names.split(" "):
                self.assertIn(name, vars(getattr(module(place), kind)))

    def test_properties(self):
        for place, kind, name in rows(PROPERTIES):
            self.assertIsInstance(vars(getattr(module(place), kind))[name], property)

    def test_generators(self):
        for place, name in GENERATORS:
            self.assertTrue(inspect.isgeneratorfunction(getattr(module(place), name)))
        self.assertTrue(inspect.isgeneratorfunction(module("scenes").Book.statements))


if __name__ == "__main__":
    unittest.main()
