"""Points 22 and 36, their first sentences: crews and when one covers another."""

import unittest

from freestrung.crews import Crew
from freestrung.errors import BadCrew
from tests.helpers import Case

BOUNDS = {"players": (1, 4), "reach": (0, 3), "beats": (0, 3), "bears": (0, 60), "winds": (0, 3)}


class CrewTest(Case):
    def test_what_a_crew_tells(self):
        crew = Crew(2)
        self.assertEqual((crew.players, crew.reach, crew.beats, crew.bears, crew.winds), (2, 1, 1, 6, 1))
        self.assertEqual(crew.numbers, (2, 1, 1, 6, 1))
        self.assertEqual(Crew(4, reach=3, beats=2, bears=60, winds=0).numbers, (4, 3, 2, 60, 0))
        with self.assertRaises(TypeError):
            Crew(2, 1)

    def test_bounds(self):
        for word, (low, high) in BOUNDS.items():
            for number in (low, high):
                numbers = {"players": 2, word: number}
                self.assertEqual(getattr(Crew(**numbers), word), number)
            for number in (low - 1, high + 1, True, False, None, "1", 1.0, (1,), 10 ** 39, -10 ** 39):
                self.due(BadCrew(word), Crew, **{"players": 2, word: number})

    def test_the_first_wrong_one_is_told(self):
        numbers = dict.fromkeys(BOUNDS, -1)
        for word, (low, _) in BOUNDS.items():
            self.due(BadCrew(word), Crew, **numbers)
            numbers[word] = low
        self.assertEqual(Crew(**numbers).numbers, (1, 0, 0, 0, 0))

    def test_covers(self):
        numbers = (2, 1, 1, 6, 1)
        crew = Crew.of(numbers)
        self.assertIs(crew.covers(crew), True)
        for place in range(5):
            more = Crew.of(numbers[:place] + (numbers[place] + 1,) + numbers[place + 1:])
            self.assertIs(more.covers(crew), True)
            self.assertIs(crew.covers(more), False)
        self.assertIs(Crew(3, reach=0).covers(Crew(2, reach=1)), False)
        self.assertIs(Crew(2, reach=1).covers(Crew(3, reach=0)), False)

    def test_changed(self):
        crew = Crew(2)
        self.assertEqual(crew.changed(), crew)
        self.assertEqual(crew.changed(players=3, winds=0).numbers, (3, 1, 1, 6, 0))
        self.assertEqual(crew.numbers, (2, 1, 1, 6, 1))
        self.due(BadCrew("reach"), crew.changed, reach=4, beats=9)
        self.due(BadCrew("players"), crew.changed, players=None)
        self.due(BadCrew("players"), crew.changed, winds=9, players=0)

    def test_of(self):
        self.assertEqual(Crew.of((1, 0, 3, 0, 3)), Crew(1, reach=0, beats=3, bears=0, winds=3))
        passed = [1, 0, 3, 0, 3]
        self.assertEqual(Crew.of(passed).numbers, (1, 0, 3, 0, 3))
        self.assertEqual(passed, [1, 0, 3, 0, 3])
        self.due(BadCrew("bears"), Crew.of, (1, 0, 3, 61, 4))
        self.due(BadCrew("players"), Crew.of, (True, 0, 3, 61, 4))

    def test_equal(self):
        self.assertEqual(Crew(2), Crew(2, winds=1))
        for word in BOUNDS:
            self.assertNotEqual(Crew(2), Crew(2).changed(**{word: 3}))
        self.assertIs(Crew(2) == (2, 1, 1, 6, 1), False)


if __name__ == "__main__":
    unittest.main()
