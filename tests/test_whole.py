"""The whole document: points that speak of the same thing agree."""

import random

from freestrung.arena import answers, may_end, positions
from freestrung.called import Called
from freestrung.clearing import Clearing, judge_lot
from freestrung.costs import costs, judge_costs
from freestrung.covers import Cover
from freestrung.crews import Crew
from freestrung.errors import TooMany
from freestrung.evenings import evening_counts, evenings, lot_after
from freestrung.falls import Falls, judge_falls
from freestrung.fixed import Fixed
from freestrung.holds import far, path
from freestrung.journal import read_journal, taken_up, write_journal
from freestrung.judges import judge_caller, judge_crew
from freestrung.known import Known, judge_lots
from freestrung.lies import Lie
from freestrung.nights import Night, prompted
from freestrung.notice import Noticed
from freestrung.orders import Cheapest, judge_prices
from freestrung.outcomes import cheap_outcomes, outcomes
from freestrung.playings import moves_of, passings_of
from freestrung.playtext import read_play, write_play
from freestrung.prompts import Prompter, read_prompt, write_prompt
from freestrung.scenetext import read_book, write_book
from freestrung.seen import shows_in
from freestrung.showalike import PlayAlike, has_show, show_counts
from freestrung.sound import Sound, judge_pictures
from freestrung.stages import Stage
from freestrung.standings import is_free_standing, is_standing, lie_of, picture_of, standing_of
from tests.helpers import Case
from tests.models import deeds_of
from tests.samples import sound_plays
from tests.test_called import small_games
from tests.test_journal import random_night


class TextTest(Case):
    def test_text_and_objects(self):
        for rng, play, crew in sound_plays(160, 80):
            self.assertEqual(read_book(write_book(play.book)), play.book)
            self.assertEqual(write_book(read_book(write_book(play.book))), write_book(play.book))
            self.assertEqual(read_play(write_play(play)), play)
            night = random_night(rng, play, crew)
            lines = write_journal(night)
            self.assertEqual(write_journal(read_journal(lines)), lines)
            self.assertEqual(lines[:len(write_play(play))], write_play(play))
            self.assertEqual(write_journal(taken_up(lines)[0]), lines)
            noticed = Noticed(play, 0).play
            self.assertEqual(read_play(write_play(noticed)), noticed)

    def test_a_prompt_book_is_as_good_as_its_table(self):
        for _, play, crew, called in small_games(161, 60):
            if called:
                rows = read_prompt(write_prompt(called.table))
                self.assertIsNone(judge_crew(play, crew, rows))
                self.assertEqual(tuple(Prompter(play, crew, rows)), called.table)


class TableTest(Case):
    def test_told_tables_and_judges(self):
        many = 0
        for _, play, crew, called in small_games(162, 100):
            self.assertIsNone(judge_pictures(play, Sound(play).table))
            if called:
                self.assertIsNone(judge_crew(play, crew, called.table))
            else:
                self.assertIsNone(judge_caller(play, crew, called.caller))
            known = Known(play, crew)
            if known:
                self.assertIsNone(judge_lots(play, crew, known.table))
            for most in range(min(2, crew.players - 1) + 1):
                try:
                    falls = Falls(play, crew, most)
                except TooMany:
                    continue
                if falls:
                    self.assertIsNone(judge_falls(play, crew, most, falls.table))
                    many += 1
            for _, standing in called.found[:8]:
                self.clearing(crew, standing)
        self.assertGreater(many, 60)

    def clearing(self, crew, standing):
        try:
            clearing = Clearing(crew, standing)
        except TooMany:
            return
        if clearing:
            stage = Stage(crew, standing)
            for deed, way in clearing:
                stage.do(deed, way)
            self.assertFalse(lie_of(stage.standing))
        else:
            self.assertIsNone(judge_lot(crew, clearing.lot))
            self.assertIn(standing, clearing.lot)

    def test_hands_and_costs(self):
        for _, play, crew in sound_plays(163, 60):
            row, begun = play.opening[0], standing_of(play.opening)
            for call in play.plan.calls_at(play.plan.first):
                deeds = deeds_of(play, call, begun)
                self.assertIsNone(judge_costs(crew, row, deeds, costs(crew, row, deeds)))
                cover = Cover(crew, row, deeds, hold=())
                try:
                    told = cheap_outcomes(crew, begun, deeds)
                except TooMany:
                    continue
                if told:
                    # Hands alone can do what is done with cords, with no more moves.
                    self.assertTrue(cover)
                    self.assertLessEqual(cover.fewest, min(moves for _, moves, _ in told))

    def test_matinees_of_one_scene(self):
        for _, play, crew in sound_plays(164, 60):
            begun = standing_of(play.opening)
            for call in play.plan.calls_at(play.plan.first):
                scene = play.plan[call][1]
                try:
                    told = cheap_outcomes(crew, begun, deeds_of(play, call, begun))
                except TooMany:
                    continue
                cheapest = Cheapest(play.book, crew, begun, (scene,))
                self.assertEqual(cheapest.price, min((moves for _, moves, _ in told), default=None))
                self.assertIsNone(judge_prices(play.book, crew, begun, (scene,), cheapest.table))
                self.assertEqual(len(cheapest), len(told) + 1)


class EveningTest(Case):
    def test_called_and_known_ahead(self):
        told = [0, 0]
        for _, play, crew, called in small_games(165, 120):
            known = Known(play, crew)
            told[bool(called)] += 1
            self.assertLessEqual(bool(called), bool(known))
            self.assertEqual(bool(Called(Noticed(play, 0).play, crew)), bool(called))
            if not known:
                # Whoever calls need only call this evening.
                self.assertEqual([standing for standing in lot_after(play, crew, known.row) if is_free_standing(standing)], [])
                self.assertNotEqual(called.rank(play.beginning), -1)
                self.assertLessEqual(called.rank(play.beginning), len(known.row))
        self.assertGreater(min(told), 20)

    def test_lots_are_the_positions(self):
        for _, play, crew, called in small_games(166, 60):
            found = {play.beginning}
            for row in list(evenings(play, 3)):
                for number in range(len(row) + 1):
                    node = play.plan.node_behind(row[:number])
                    for standing in lot_after(play, crew, row[:number]):
                        found.add((node, standing))
                        self.assertEqual(picture_of(standing), play.picture_behind(row[:number]))
                        self.assertTrue(is_standing(standing, crew))
            self.assertLessEqual(found, set(called.found))

    def test_a_fixed_book_of_one_playing_each(self):
        for _, play, crew, called in small_games(167, 60):
            if called and len({row[0] for row in called.table}) == len(called.table):
                playings = {}
                for node, _, told in called.table:
                    playings.update(zip(play.plan.calls_at(node), told))
                fixed = Fixed(play, crew, tuple(playings[call] for call in range(len(play.plan))))
                self.assertTrue(fixed)
                self.assertEqual(sorted(fixed.table), sorted(row[:2] for row in called.table))

    def test_evenings_and_shows(self):
        for _, play, _ in sound_plays(168, 50, 2):
            self.assertEqual(len(list(evenings(play, 3))), sum(evening_counts(play, 3)))
            self.assertTrue(PlayAlike(play, Noticed(play, 0).play))
            try:
                counts = show_counts(play, 4)
            except TooMany:
                continue
            shows = set()
            for row in list(evenings(play, 2)):
                for show in shows_in(play, row):
                    self.assertTrue(has_show(play, show))
                    shows.add(show)
            for number in range(5):
                self.assertLessEqual(len([show for show in shows if len(show) == number]), counts[number])


class NightTest(Case):
    def test_nights_and_positions(self):
        for rng, play, crew, called in small_games(169, 80):
            for _ in range(3):
                night = random_night(rng, play, crew)
                if night.due is None:
                    self.assertIn(night.at, called.found)
                    self.assertIn(night.at, positions(play, crew))
                    row = tuple(entry[1] for entry in night.log if entry[0] == "call")
                    self.assertEqual(play.plan.node_behind(row), night.at[0])
                    self.assertIn(night.at[1], lot_after(play, crew, row))
                    self.assertEqual(play.picture_behind(row), picture_of(night.at[1]))
                    if may_end(play, crew, night.at) is not None:
                        self.assertTrue(has_show(play, night.events))
                if night.over:
                    self.assertEqual(may_end(play, crew, night.at), "free")

    def test_each_position_is_come_to_by_a_night(self):
        for rng, play, crew, called in small_games(170, 40, 40):
            nights = {play.beginning: Night(play, crew)}
            for position in called.found:
                for call in play.plan.calls_at(position[0]):
                    for standing, playing in answers(play, crew, position, call):
                        after = (play.plan[call][2], standing)
                        if after not in nights:
                            nights[after] = nights[position].copy()
                            nights[after].play_call(call, playing)
                            self.assertEqual(nights[after].at, after)
            self.assertEqual(tuple(nights), called.found)

    def test_a_night_and_a_stage(self):
        for rng, play, crew in sound_plays(171, 60):
            night = random_night(rng, play, crew)
            stage = Stage(crew, standing_of(play.opening))
            again = Night(play, crew)
            for entry in night.log:
                if entry[0] == "call":
                    again.call(entry[1])
                elif entry[0] == "do":
                    self.assertEqual(stage.do(again.due, entry[1]), again.do(entry[1]))
                else:
                    again.curtain()
            self.assertEqual(again, night)
            self.assertEqual(stage.standing, night.at[1])
            self.assertEqual(len(stage.done), len([entry for entry in night.log if entry[0] == "do"]))

    def test_whoever_calls_leads_a_lost_crew_to_a_bad_end(self):
        """By the caller's table the rank falls with each answer, until there is none, or the end is bound."""
        rng = random.Random(172)
        many = 0
        for _, play, crew, called in small_games(173, 500):
            if called:
                continue
            rows = {row[:2]: row[2:] for row in called.caller}
            here, last = play.beginning, None
            while rows[here][0] != -1:
                call, rank = rows[here]
                self.assertTrue(last is None or rank < last)
                told = answers(play, crew, here, call)
                if not told:
                    break
                here, last = (play.plan[call][2], rng.choice(told)[0]), rank
                many += 1
            else:
                self.assertEqual(may_end(play, crew, here), "bound")
        self.assertGreater(many, 3)

    def test_a_prompted_evening_is_known_ahead(self):
        for rng, play, crew, called in small_games(174, 60):
            rows = [row for row in list(evenings(play, 4)) if row]
            if called and rows:
                row = rng.choice(rows)
                night = Night(play, crew)
                found = prompted(night, Prompter(play, crew, called.table), row)
                for number, (_, standing) in enumerate(found):
                    self.assertIn(standing, lot_after(play, crew, row[:number + 1]))
                night.curtain()


class PlayingTest(Case):
    def test_outcomes_and_stages(self):
        for rng, play, crew in sound_plays(175, 60):
            begun = standing_of(play.opening)
            for call in play.plan.calls_at(play.plan.first):
                deeds = deeds_of(play, call, begun)
                try:
                    told = outcomes(crew, begun, deeds)
                except TooMany:
                    continue
                for after, playing in told[:5]:
                    stage = Stage(crew, begun)
                    for deed, way in zip(deeds, playing):
                        stage.do(deed, way)
                    self.assertEqual(stage.standing, after)
                    self.assertEqual(stage.moves, moves_of(crew, begun, deeds, playing))
                    if begun[0] and deeds and not any(deed[0] in ("exit", "enter") for deed in deeds):
                        row = passings_of(crew, begun, deeds, playing)
                        self.assertEqual(row(lie_of(begun)), lie_of(after))

    def test_moves_and_paths(self):
        rng = random.Random(176)
        for _, play, crew, called in small_games(177, 30):
            for _ in range(4):
                one, other = rng.choice(called.found)[1], rng.choice(called.found)[1]
                if set(one[0]) == set(other[0]) and one[0] == other[0]:
                    self.assertEqual(len(path(crew, one[0], one[4], other[4])), far(crew, one[0], one[4], other[4]) + 1)

    def test_a_greater_crew(self):
        """Each outcome of a crew is one of a greater crew."""
        for _, play, crew in sound_plays(178, 40, 2):
            begun = standing_of(play.opening)
            for call in play.plan.calls_at(play.plan.first):
                try:
                    lesser = {after for after, _ in outcomes(crew, begun, deeds_of(play, call, begun))}
                    greater = {after for after, _ in outcomes(Crew(4, reach=3, beats=3, bears=60, winds=3), begun,
                                                              deeds_of(play, call, begun))}
                except TooMany:
                    continue
                self.assertLessEqual(lesser, greater)
                for standing in lesser:
                    self.assertEqual(Lie(standing[3]), lie_of(standing))
