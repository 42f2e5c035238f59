"""Lies: how cords lie across one another."""

from freestrung.errors import BadCords, BadCrossing, BadLie, BadPlace, BadWay, TooMany, Unlike
from freestrung.forms import is_one_of, is_row, is_within
from freestrung.tangles import (
    MOST_CORDS, MOST_LETTERS, WAYS, are_words, back_words, crossed_above, crossed_below, fault_in,
    hung_below, kept_words, letters_in, middles, mirrored_words, set_off, straight_words, thinned_words,
    twist_of,
)


def is_crossing(thing, cords):
    """Whether a thing is a crossing for so many cords."""
    if not is_row(thing) or len(thing) != 2:
        return False
    return is_within(thing[0], 0, cords - 2) and is_one_of(thing[1], WAYS)


def judge_cords(cords):
    """Raises BadCords for what is no number of cords of a lie."""
    if not is_within(cords, 0, MOST_CORDS):
        raise BadCords(cords)


def judge_place(cords, place):
    """Raises BadPlace for what is no place at which so many cords can be crossed."""
    if not is_within(place, 0, cords - 2):
        raise BadPlace(place)


def judge_places(cords, places):
    """Raises BadPlace for the first of some places that is none, or not greater than the one ahead of it."""
    lowest = 0
    for place in places:
        if not is_within(place, lowest, cords - 1):
            raise BadPlace(place)
        lowest = place + 1


def judge_way(way):
    """Raises BadWay for what is no way."""
    if not is_one_of(way, WAYS):
        raise BadWay(way)


class Lie:
    """A lie of some cords, told by a word for each place below."""

    def __init__(self, words):
        if not are_words(words):
            raise BadLie(-1)
        if letters_in(words) > MOST_LETTERS:
            raise TooMany("letter")
        kept = kept_words(words)
        fault = fault_in(kept)
        if fault is not None:
            raise BadLie(fault)
        self.words = kept

    def __len__(self):
        return len(self.words)

    def __getitem__(self, at):
        if not is_within(at, 0, len(self.words) - 1):
            raise BadPlace(at)
        return self.words[at]

    def __iter__(self):
        return iter(self.words)

    def __eq__(self, other):
        return isinstance(other, Lie) and self.words == other.words

    def __bool__(self):
        return bool(self.words != straight_words(len(self.words)))

    def __mul__(self, other):
        if len(self.words) != len(other.words):
            raise Unlike("cords")
        return Lie(hung_below(self.words, other.words))

    def __add__(self, other):
        if len(self.words) + len(other.words) > MOST_CORDS:
            raise TooMany("cord")
        return Lie(self.words + set_off(other.words, len(self.words)))

    def __neg__(self):
        return Lie(mirrored_words(self.words))

    @property
    def tops(self):
        """For each place below the place above to which its cord leads."""
        return tuple([letter - 1 for letter in middles(self.words)])

    @property
    def even(self):
        """Whether each cord hangs from the bar above its puppet."""
        return self.tops == tuple(range(len(self.words)))

    @property
    def weight(self):
        """The number of all letters, less the number of cords."""
        return letters_in(self.words) - len(self.words)

    def below(self, place, way):
        """The lie with two puppets crossed."""
        judge_place(len(self.words), place)
        judge_way(way)
        return Lie(crossed_below(self.words, place, way))

    def above(self, place, way):
        """The lie with two bars crossed."""
        judge_place(len(self.words), place)
        judge_way(way)
        return Lie(crossed_above(self.words, place, way))

    def passed(self, place, top, shown):
        """The lie with two bars crossed in the one way, and their puppets in the other."""
        judge_place(len(self.words), place)
        judge_way(top)
        judge_way(shown)
        return Lie(crossed_below(crossed_above(self.words, place, top), place, shown))

    def back(self):
        """The lie whose product with this one is straight."""
        return Lie(back_words(self.words))

    def thinned(self, places):
        """The lie of the cords of some places above alone."""
        judge_places(len(self.words), places)
        return Lie(thinned_words(self.words, places))

    def twist(self, one, other):
        """How often the cords of two places above go round each other, in half rounds."""
        for place in (one, other):
            if not is_within(place, 0, len(self.words) - 1):
                raise BadPlace(place)
        if one == other:
            raise BadPlace(other)
        return twist_of(thinned_words(self.words, sorted([one, other])))

    @staticmethod
    def of(cords, crossings):
        """The lie that a row of crossings makes."""
        judge_cords(cords)
        if not is_row(crossings):
            raise BadCrossing(-1)
        for number, crossing in enumerate(crossings):
            if not is_crossing(crossing, cords):
                raise BadCrossing(number)
        words = straight_words(cords)
        for place, way in crossings:
            words = crossed_below(words, place, way)
            if letters_in(words) > MOST_LETTERS:
                raise TooMany("letter")
        return Lie(words)

    @staticmethod
    def straight(cords):
        """The straight lie."""
        judge_cords(cords)
        return Lie(straight_words(cords))

    @staticmethod
    def rounded(cords, place):
        """The lie in which two neighbours go once round each other."""
        judge_cords(cords)
        judge_place(cords, place)
        return Lie.of(cords, ((place, "before"), (place, "before")))

    @staticmethod
    def is_one(thing):
        """Whether a thing is the tuple of the words of a lie."""
        if not are_words(thing) or letters_in(thing) > MOST_LETTERS:
            return False
        return fault_in(kept_words(thing)) is None
