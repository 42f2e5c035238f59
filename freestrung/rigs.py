"""Rigs: what a crew can do at standings, with all that can be found once for several of them."""

from freestrung.hands import Hands, hand_word
from freestrung.holds import is_lawful, kept_hold
from freestrung.pictures import picture_after
from freestrung.ways import NONE, TOPS, cord_word, follows_script, is_handling, ways_of, winds_behind, words_behind


class Stand:
    """A standing that a rig has come to, and the ways on from it that were found."""

    def __init__(self, held):
        self.held = held
        self.ways = {}


class Rig:
    """A crew at work."""

    def __init__(self, crew):
        self.crew = crew
        self.hands = Hands(crew)
        self.led = {}
        self.handed = {}
        self.stands = {}

    def cords_led(self, row, winds, words, deed):
        """For each pair of ways in which cords let a deed be done, in order, the winds and words behind it."""
        key = (row, winds, words, deed)
        if key not in self.led:
            ways = [way for way in ways_of(deed) if cord_word(self.crew, row, winds, words, deed, *way) is None]
            self.led[key] = [
                (top, shown, winds_behind(row, winds, deed, top, shown), words_behind(row, words, deed, top, shown))
                for top, shown in ways
            ]
        return self.led[key]

    def holds_left(self, row, hold, deed):
        """The hold behind a deed for each way above with which a hold lets it be done."""
        left = {top: self.hands.hold_left(row, deed, hold, top) for top in TOPS.get(deed[0], NONE)}
        return {top: other for top, other in left.items() if other is not None}

    def hands_led(self, row, hold, deed):
        """For each hold that can be had in time, in order, how far it is, the hold, and the holds behind a deed."""
        key = (row, hold, deed)
        if key not in self.handed:
            near = self.hands.near(row, hold)
            self.handed[key] = [(moves, other, self.holds_left(row, other, deed)) for moves, other in near]
        return self.handed[key]

    def steps(self, standing, deed):
        """For each handling of a deed, in order, how far its hold is, the handling, and the standing behind it."""
        row, faces, winds, words, hold = standing
        picture = picture_after((row, faces), deed)
        led = self.cords_led(row, winds, words, deed)
        found = []
        for moves, other, left in self.hands_led(row, hold, deed):
            for top, shown, winds_left, words_left in led:
                if top in left:
                    found.append((moves, (other, top, shown), picture + (winds_left, words_left, left[top])))
        return found

    def stand(self, standing):
        """The one Stand of a standing, so that it is found again without a look at all its parts."""
        if standing not in self.stands:
            self.stands[standing] = Stand(standing)
        return self.stands[standing]

    def ways_on(self, stand, deed):
        """For each standing behind a deed, as first found, how far the hold is, the handling, and its Stand."""
        if deed not in stand.ways:
            found = {}
            for moves, handling, standing in self.steps(stand.held, deed):
                # Nearer holds come first, so the first handling that leads somewhere has the fewest moves, too.
                found.setdefault(self.stand(standing), (moves, handling))
            stand.ways[deed] = [(moves, handling, after) for after, (moves, handling) in found.items()]
        return stand.ways[deed]

    def word_due(self, standing, deed, handling):
        """The word that is due for a handling, whatever it is, of a deed that fits, or None."""
        if not is_handling(deed, handling):
            return "form"
        hold, top, shown = kept_hold(handling[0]), handling[1], handling[2]
        if not follows_script(deed, shown):
            return "script"
        row, _, winds, words, held = standing
        if not is_lawful(self.crew, row, hold):
            return "hold"
        if hold not in [other for _, other in self.hands.near(row, held)]:
            return "far"
        word = hand_word(self.crew, row, deed, hold, top)
        return cord_word(self.crew, row, winds, words, deed, top, shown) if word is None else word

    def behind(self, standing, deed, handling):
        """The standing behind a deed that can be done with this handling."""
        row, faces, winds, words, _ = standing
        hold, top, shown = kept_hold(handling[0]), handling[1], handling[2]
        return picture_after((row, faces), deed) + (
            winds_behind(row, winds, deed, top, shown), words_behind(row, words, deed, top, shown),
            self.hands.hold_left(row, deed, hold, top),
        )

    def moves_to(self, standing, handling):
        """How far the hold of a handling is that can be had in time."""
        hold = kept_hold(handling[0])
        return [moves for moves, other in self.hands.near(standing[0], standing[4]) if other == hold][0]
