"""Point 36: the crews between two, and the least ones that can play every evening."""

import inspect
import itertools

from freestrung.called import Called
from freestrung.crews import Crew
from freestrung.errors import Spoilt, TooMany, Unlike
from freestrung.known import Known
from freestrung.leastcrews import crews_between, least_crews
from tests.helpers import KQF, Case, fork_play, play_of
from tests.samples import sound_plays
from tests.test_called import KING, LEFT, TURNED, TURNS


def between(low, high):
    return [numbers for numbers in itertools.product(range(5), range(4), range(4), range(61), range(4))
            if all(one <= number <= other for one, number, other in zip(low.numbers, numbers, high.numbers))]


class BetweenTest(Case):
    def test_all_in_order(self):
        for low, high in ((Crew(1), Crew(1)), (Crew(1, reach=0), Crew(3)), (Crew(1, bears=3, winds=0), Crew(2, beats=3, bears=5)),
                          (Crew(1, reach=0, beats=0, bears=58, winds=0), Crew(4, reach=3, beats=3, bears=60, winds=3))):
            found = list(crews_between(low, high))
            self.assertEqual([crew.numbers for crew in found], between(low, high))
            self.assertTrue(all(isinstance(crew, Crew) for crew in found))
            self.assertTrue(all(high.covers(crew) and crew.covers(low) for crew in found))

    def test_all_crews(self):
        low, high = Crew(1, reach=0, beats=0, bears=0, winds=0), Crew(4, reach=3, beats=3, bears=60, winds=3)
        self.assertEqual(sum(1 for _ in crews_between(low, high)), 4 * 4 * 4 * 61 * 4)

    def test_errors_when_it_is_iterated(self):
        self.assertTrue(inspect.isgeneratorfunction(crews_between))
        for low, high in ((Crew(2), Crew(1)), (Crew(1, bears=7), Crew(4)), (Crew(1, winds=2), Crew(4, reach=3))):
            self.due(Unlike("crews"), list, crews_between(low, high))


class LeastTest(Case):
    def test_a_small_play(self):
        play = fork_play(1)
        low, high = Crew(1, reach=0, beats=1, bears=0, winds=0), Crew(2, reach=2, beats=2, bears=0, winds=0)
        self.assertEqual([crew.numbers for crew in least_crews(play, low, high)], [
            (1, 1, 2, 0, 0), (2, 0, 2, 0, 0)])

    def test_against_the_definition(self):
        sizes = set()
        for rng, play, crew in sound_plays(140, 40, 2):
            low = Crew.of(tuple(min(one, other) for one, other in zip(crew.numbers, (1, 0, 0, 2, 0))))
            high = low.changed(players=rng.randint(1, 2), reach=rng.randint(0, 1), beats=rng.randint(0, 1),
                               bears=low.bears + rng.randint(0, 1), winds=rng.randint(0, 1))
            crews = [Crew.of(numbers) for numbers in between(low, high)]
            try:
                able = [one for one in crews if Called(play, one)]
            except TooMany as why:
                self.due(why, least_crews, play, low, high)
                continue
            wanted = [one for one in able if not any(one.covers(other) and one != other for other in able)]
            told = least_crews(play, low, high)
            self.assertIsInstance(told, tuple)
            self.assertEqual([one.numbers for one in told], [one.numbers for one in wanted])
            self.assertEqual(list(told), wanted)
            for one in crews:
                self.assertIs(one in able, any(one.covers(other) for other in told))
            sizes.add(len(told))
        self.assertLessEqual({0, 1}, sizes)

    def test_a_greater_crew_can_play_no_less(self):
        for rng, play, crew in sound_plays(141, 60, 2):
            greater = Crew.of(tuple(number + (number < most and rng.random() < 0.4)
                                    for number, most in zip(crew.numbers, (4, 3, 3, 60, 3))))
            self.assertTrue(greater.covers(crew))
            try:
                for kind in (Called, Known):
                    self.assertLessEqual(bool(kind(play, crew)), bool(kind(play, greater)))
            except TooMany:
                pass

    def test_none_and_one(self):
        play = play_of(TURNED, ["a l a"], opening=KING)
        self.assertEqual(least_crews(play, Crew(1, beats=0), Crew(4, beats=0)), ())
        self.assertEqual(least_crews(play, Crew(1), Crew(1)), (Crew(1),))

    def test_thirty_two_crews(self):
        play = play_of({"e": ()}, ["a e a"])
        low = Crew(1, reach=0, beats=0, bears=0, winds=0)
        for high in (Crew(4, reach=3, beats=1, bears=0, winds=0), Crew(1, reach=0, beats=0, bears=31, winds=0)):
            self.assertEqual(len(list(crews_between(low, high))), 32)
            self.assertEqual(least_crews(play, low, high), (low,))
        for high in (Crew(1, reach=0, beats=0, bears=32, winds=0), Crew(4, reach=3, beats=3, bears=60, winds=3),
                     Crew(3, reach=0, beats=0, bears=10, winds=0)):
            self.due(TooMany("crew"), least_crews, play, low, high)

    def test_errors_in_order(self):
        bad = play_of({"bad": LEFT}, ["a bad a"])
        play = play_of({"t": TURNS}, ["a t a"], opening=KQF)
        weak, strong = Crew(3, beats=0, winds=3), Crew(3, beats=3, winds=3)
        self.due(Spoilt((0,)), least_crews, bad, Crew(2), Crew(1))
        self.due(Unlike("crews"), least_crews, play, Crew(1, reach=3, bears=60), Crew(4))
        self.due(TooMany("crew"), least_crews, play, Crew(1, reach=0, beats=0, bears=0, winds=0), Crew(4, beats=3, bears=60, winds=3))
        # Each crew is asked, also when a lesser one is told to be able.
        self.due(TooMany("standing"), least_crews, play, weak, strong)
        free = play_of({"t": TURNS, "e": ()}, ["a e a", "b t a", "a e b"], opening=KQF)
        self.assertTrue(Called(free, Crew(3, beats=3, winds=0)))
        self.due(TooMany("position"), least_crews, free, Crew(3, beats=3, winds=0), strong)
