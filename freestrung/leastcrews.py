"""The least crews that can play every evening of a play."""

from freestrung.called import can_play
from freestrung.crews import Crew
from freestrung.errors import TooMany, Unlike
from freestrung.houses import Script

MOST_CREWS = 32


def numbers_between(low, high):
    """The five numbers of each crew between two, in order."""
    if not high.covers(low):
        raise Unlike("crews")
    found = [()]
    for least, most in zip(low.numbers, high.numbers):
        found = [numbers + (number,) for numbers in found for number in range(least, most + 1)]
    return found


def crews_between(low, high):
    """All crews between two, in the order of their numbers."""
    for numbers in numbers_between(low, high):
        yield Crew.of(numbers)


def least_crews(play, low, high):
    """The least of the crews between two that can play every evening, called."""
    script = Script(play)
    told = numbers_between(low, high)
    if len(told) > MOST_CREWS:
        raise TooMany("crew")
    able = [crew for crew in [Crew.of(numbers) for numbers in told] if can_play(script, crew)]
    return tuple([crew for crew in able if len([other for other in able if crew.covers(other)]) == 1])
