"""Stages: a standing, and what was done to come to it; and trials, behind which all is as it was."""

from freestrung.errors import Unplayable
from freestrung.handlings import kept_deed
from freestrung.rigs import Rig
from freestrung.standings import kept_standing, picture_of
from freestrung.ways import kept_handling


class Stage:
    """A crew at a standing."""

    def __init__(self, crew, standing):
        self.crew = crew
        self.rig = Rig(crew)
        self.base = kept_standing(crew, standing)
        self.trail = ()

    def __eq__(self, other):
        return (isinstance(other, Stage) and self.crew == other.crew
                and self.standing == other.standing and self.done == other.done)

    @property
    def standing(self):
        """The standing that there is."""
        return self.base if len(self.trail) == 0 else self.trail[-1][1]

    @property
    def view(self):
        """The picture of the standing."""
        return picture_of(self.standing)

    @property
    def done(self):
        """The pairs of a deed and its handling that were done."""
        return tuple([pair for pair, _, _ in self.trail])

    @property
    def moves(self):
        """How far all holds were from those ahead of them, together."""
        return sum([moves for _, _, moves in self.trail])

    def put(self, standing):
        """The stage has this standing now, and nothing done."""
        self.base = kept_standing(self.crew, standing)
        self.trail = ()

    def do(self, deed, handling):
        """Does a deed with a handling, and tells the standing behind it."""
        here = self.standing
        kept = kept_deed(here, deed)
        word = self.rig.word_due(here, kept, handling)
        if word is not None:
            raise Unplayable(0, word)
        moves = self.rig.moves_to(here, handling)
        after = self.rig.behind(here, kept, handling)
        self.trail = self.trail + (((kept, kept_handling(handling)), after, moves),)
        return after

    def undo(self):
        """Takes the last deed back, and tells it with its handling; None if nothing was done."""
        if len(self.trail) == 0:
            return None
        pair = self.trail[-1][0]
        self.trail = self.trail[:-1]
        return pair

    def copy(self):
        """A stage of its own with the same crew, standing and deeds done."""
        other = Stage(self.crew, self.base)
        other.trail = self.trail
        return other


class Mark:
    """What a stage was, and the mark that was set ahead of this one."""

    def __init__(self, stage, older):
        self.base = stage.base
        self.trail = stage.trail
        self.older = older


class Trial:
    """A context behind which a stage is as it was."""

    def __init__(self, stage):
        self.stage = stage
        self.mark = None

    def __enter__(self):
        self.mark = Mark(self.stage, self.mark)
        return self.stage

    def __exit__(self, kind, value, trace):
        self.stage.base = self.mark.base
        self.stage.trail = self.mark.trail
        self.mark = self.mark.older


def tried(stage, pairs):
    """The standing that a stage would have behind these pairs of a deed and a handling."""
    here = stage.standing
    for number, (deed, handling) in enumerate(pairs):
        kept = kept_deed(here, deed)
        word = stage.rig.word_due(here, kept, handling)
        if word is not None:
            raise Unplayable(number, word)
        here = stage.rig.behind(here, kept, handling)
    return here
