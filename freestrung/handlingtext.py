"""The lines and words in which handlings and holds are told."""

DO = (
    "do TOP SHOWN",
    "do TOP SHOWN GROUP",
    "do TOP SHOWN GROUP GROUP",
    "do TOP SHOWN GROUP GROUP GROUP",
    "do TOP SHOWN GROUP GROUP GROUP GROUP",
)


def way_word(way):
    """The word for a way, which may be None."""
    return "-" if way is None else way


def way_of(word):
    """The way that a word tells."""
    return None if word == "-" else word


def hold_words(hold):
    """A word for each group of a hold."""
    return ["+".join(group) for group in hold]


def hold_of(words):
    """The hold that some words tell, each group as it is written."""
    return tuple([tuple(word.split("+")) for word in words])


def handling_line(handling):
    """The line of a handling."""
    hold, top, shown = handling
    return " ".join(["do", way_word(top), way_word(shown)] + hold_words(hold))


def handling_of(words):
    """The handling that the words of a line tell."""
    return hold_of(words[3:]), way_of(words[1]), way_of(words[2])
