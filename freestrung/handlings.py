"""Handlings: how a crew does a deed."""

from freestrung.deeds import fits_row, is_deed
from freestrung.errors import BadDeed, Unplayable
from freestrung.rigs import Rig
from freestrung.standings import kept_standing


def kept_deed(standing, deed):
    """The deed as a tuple; raises BadDeed for what is none or does not fit."""
    if not is_deed(deed) or not fits_row(standing[0], deed):
        raise BadDeed(deed)
    return tuple(deed)


def why_not(crew, standing, deed, handling):
    """None if a deed can be done with a handling, else the word that is due."""
    here = kept_standing(crew, standing)
    return Rig(crew).word_due(here, kept_deed(here, deed), handling)


def played(crew, standing, deed, handling):
    """The standing behind a deed that is done with a handling."""
    here = kept_standing(crew, standing)
    kept = kept_deed(here, deed)
    rig = Rig(crew)
    word = rig.word_due(here, kept, handling)
    if word is not None:
        raise Unplayable(0, word)
    return rig.behind(here, kept, handling)


def handlings(crew, standing, deed):
    """All handlings with which a deed can be done, in order."""
    here = kept_standing(crew, standing)
    for step in Rig(crew).steps(here, kept_deed(here, deed)):
        yield step[1]
