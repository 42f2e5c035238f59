"""Nights: evenings under way."""

from freestrung.arena import is_call_at
from freestrung.errors import BadCall, NotDue, Unplayable
from freestrung.houses import house_of
from freestrung.playings import played_on
from freestrung.seen import event_of
from freestrung.standings import is_free_standing, picture_of
from freestrung.ways import SHOWNS, kept_handling


def deed_shown(deed, shown):
    """The deed with the way in which it was done."""
    return deed[:-1] + (shown,) if deed[0] in SHOWNS else deed


def shown_event(standing, deed, handling):
    """The event that a deed shows when it is done with a handling, alone in a tuple, or none."""
    event = event_of(picture_of(standing), deed_shown(deed, handling[2]))
    return () if event is None else (event,)


class Night:
    """An evening under way: a play in the hands of a crew, and what was done."""

    def __init__(self, play, crew):
        self.play = play
        self.crew = crew
        self.house = house_of(play, crew)
        node, standing = play.beginning
        self.node = node
        self.stood = standing
        self.calling = None
        self.deeds = ()
        self.finished = 0
        self.entries = ()
        self.seen = ()

    def __eq__(self, other):
        return (isinstance(other, Night) and self.play == other.play
                and self.crew == other.crew and self.entries == other.entries)

    @property
    def at(self):
        """The position; while deeds are due, the node at which the call was made with the present standing."""
        return self.node, self.stood

    @property
    def due(self):
        """The deed that is due, or None."""
        return self.deeds[self.finished] if self.finished < len(self.deeds) else None

    @property
    def log(self):
        """What was done."""
        return self.entries

    @property
    def events(self):
        """What was seen."""
        return self.seen

    @property
    def over(self):
        """Whether the curtain has fallen."""
        return self.entries[-1:] == (("curtain",),)

    def judge_call(self, number):
        """Raises what is due if this call cannot be made now."""
        if self.due is not None or self.over:
            raise NotDue("call")
        if not is_call_at(self.play.plan, self.node, number):
            raise BadCall(number)

    def begin(self, number):
        """Makes a call that can be made."""
        self.entries = self.entries + (("call", number),)
        self.calling = number
        self.deeds = self.house.deeds_of(number, self.stood)
        self.finished = 0
        self.settle()

    def settle(self):
        """Behind the last deed of a call the night is at the node that it leads to."""
        if self.finished == len(self.deeds):
            self.node = self.house.node_after(self.calling)

    def advance(self, handling):
        """Does the deed that is due with a handling with which it can be done."""
        deed = self.due
        kept = kept_handling(handling)
        self.seen = self.seen + shown_event(self.stood, deed, kept)
        self.entries = self.entries + (("do", kept),)
        self.stood = self.house.rig.behind(self.stood, deed, kept)
        self.finished += 1
        self.settle()

    def call(self, number):
        """Makes a call."""
        self.judge_call(number)
        self.begin(number)

    def do(self, handling):
        """Does the deed that is due, and tells the standing behind it."""
        if self.due is None:
            raise NotDue("do")
        word = self.house.rig.word_due(self.stood, self.due, handling)
        if word is not None:
            raise Unplayable(self.finished, word)
        self.advance(handling)
        return self.stood

    def play_call(self, number, playing):
        """Makes a call and does all its deeds by a playing."""
        self.judge_call(number)
        deeds = self.house.deeds_of(number, self.stood)
        _, wrong = played_on(self.house.rig, self.stood, deeds, playing)
        if wrong is not None:
            raise Unplayable(wrong[0], wrong[1])
        self.begin(number)
        for handling in playing:
            self.advance(handling)

    def curtain(self):
        """Lets the curtain fall."""
        if self.due is not None or self.over or not self.play.plan.is_end(self.node):
            raise NotDue("curtain")
        if not is_free_standing(self.stood):
            raise Unplayable(-1, "free")
        self.entries = self.entries + (("curtain",),)

    def copy(self):
        """A night of its own at which the same was done."""
        other = Night(self.play, self.crew)
        other.node = self.node
        other.stood = self.stood
        other.calling = self.calling
        other.deeds = self.deeds
        other.finished = self.finished
        other.entries = self.entries
        other.seen = self.seen
        return other


def prompted(night, prompter, calls):
    """Plays calls in a night by the playings of a prompter, and tells the positions behind them."""
    found = []
    for call in calls:
        night.judge_call(call)
        night.play_call(call, prompter(night.at, call))
        found.append(night.at)
    return tuple(found)
