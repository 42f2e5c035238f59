"""Crews: the hands that there are, and what they can bear."""

from freestrung.errors import BadCrew
from freestrung.forms import is_within

BOUNDS = (("players", 1, 4), ("reach", 0, 3), ("beats", 0, 3), ("bears", 0, 60), ("winds", 0, 3))


class Crew:
    """A crew, told by five integers."""

    def __init__(self, players, *, reach=1, beats=1, bears=6, winds=1):
        numbers = (players, reach, beats, bears, winds)
        for number, (word, low, high) in zip(numbers, BOUNDS):
            if not is_within(number, low, high):
                raise BadCrew(word)
        self.players = players
        self.reach = reach
        self.beats = beats
        self.bears = bears
        self.winds = winds

    def __eq__(self, other):
        return isinstance(other, Crew) and self.numbers == other.numbers

    @property
    def numbers(self):
        """The five integers."""
        return self.players, self.reach, self.beats, self.bears, self.winds

    def covers(self, other):
        """Whether each of the five integers is at least that of the other crew."""
        return all([mine >= theirs for mine, theirs in zip(self.numbers, other.numbers)])

    def changed(self, **numbers):
        """The crew with some of the five integers exchanged."""
        words = [bound[0] for bound in BOUNDS]
        told = dict(zip(words, self.numbers))
        told.update(numbers)
        return Crew(**told)

    @staticmethod
    def of(numbers):
        """The crew of a tuple of the five integers."""
        players, reach, beats, bears, winds = numbers
        return Crew(players, reach=reach, beats=beats, bears=bears, winds=winds)
