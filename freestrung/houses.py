"""Houses: sound plays in the hands of crews, with all that can be found once for several standings."""

from freestrung.forms import is_row
from freestrung.outcomes import layer_found, lot_found
from freestrung.playings import played_on
from freestrung.rigs import Rig
from freestrung.sound import Flows, sound_pairs
from freestrung.standings import is_standing, kept_parts, picture_of


class Script:
    """A sound play, for whatever crews; raises what is due for a play that is not sound."""

    def __init__(self, play):
        self.play = play
        self.flows = Flows(play)
        self.pairs = {pair: True for pair in sound_pairs(self.flows)}


class House:
    """The script of a sound play in the hands of a crew."""

    def __init__(self, script, crew):
        self.script = script
        self.play = script.play
        self.crew = crew
        self.rig = Rig(crew)
        self.answered = {}

    def node_after(self, call):
        """The node that a call leads to."""
        return self.play.plan.calls[call][2]

    def deeds_of(self, call, standing):
        """The deeds of a call at a standing."""
        return self.script.flows.shown(call, picture_of(standing)).deeds

    def answers(self, call, stand):
        """For each Stand that the deeds of a call lead to, in order, its moves and its playing."""
        key = (self.play.plan.calls[call][1], stand)
        if key not in self.answered:
            self.answered[key] = layer_found(self.rig, (stand.held,), self.deeds_of(call, stand.held))
        return self.answered[key]

    def lot_behind(self, call, lot):
        """The lot behind a call at all standings of a lot."""
        if len(lot) == 0:
            return ()
        return lot_found(self.rig, lot, self.deeds_of(call, lot[0]))

    def played(self, call, standing, playing):
        """The standing behind a call that is played by a playing, whatever it is; None if it cannot be."""
        found, wrong = played_on(self.rig, standing, self.deeds_of(call, standing), playing)
        return found[-1] if wrong is None else None

    def is_led_to(self, node, standing):
        """Whether the picture of a standing is one that rows of calls lead to at a node."""
        return (node, picture_of(standing)) in self.script.pairs

    def is_at(self, node, standing):
        """Whether a node is one of the plan and a standing one for the crew, whatever they are."""
        return node in self.play.plan and is_standing(standing, self.crew)

    def kept_position(self, thing):
        """The position as tuples, or None for what is none of this play and crew."""
        if not is_row(thing) or len(thing) != 2 or not self.is_at(thing[0], thing[1]):
            return None
        position = (thing[0], kept_parts(thing[1]))
        return position if self.is_led_to(position[0], position[1]) else None


def house_of(play, crew):
    """The house of a play and a crew; raises what is due for a play that is not sound."""
    return House(Script(play), crew)
