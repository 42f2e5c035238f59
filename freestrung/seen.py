"""What the hall sees: the events of deeds, and the shows that these can be."""

from freestrung.deeds import kept_deeds
from freestrung.errors import BadPicture, TooMany
from freestrung.pictures import is_picture, kept_picture, picture_after
from freestrung.sound import sound_table

MOST_OPEN = 10


def event_of(picture, deed):
    """The event that a deed shows in a picture, or None."""
    if deed[0] == "pass":
        return ("pass", deed[1], deed[2], deed[4])
    if deed[0] == "rest":
        return None
    if deed[0] == "move" and picture[1][picture[0].index(deed[1])] == 1:
        return None
    return deed


def events_from(picture, deeds):
    """The events of deeds that fit one after the other."""
    found = []
    for deed in deeds:
        found.append(event_of(picture, deed))
        picture = picture_after(picture, deed)
    return tuple([event for event in found if event is not None])


def events(picture, deeds):
    """The events of some deeds, begun in a picture."""
    if not is_picture(picture):
        raise BadPicture(picture)
    return events_from(kept_picture(picture), kept_deeds(picture[0], deeds))


def is_open(event):
    """Whether there is an `any` in an event."""
    return event[-1] == "any"


def closed(event):
    """The two events that one with an `any` can be, or the event alone."""
    if not is_open(event):
        return (event,)
    words = ("left", "right") if event[0] == "turn" else ("before", "behind")
    return tuple([event[:-1] + (word,) for word in words])


def show_at(told, number):
    """The show with this number, of all shows of some events in ascending order."""
    show = []
    # The later of two open events changes faster, so it takes the lower binary digit.
    for event in told[::-1]:
        ways = closed(event)
        show.append(ways[number & (len(ways) - 1)])
        number = number >> (len(ways) - 1)
    return tuple(show[::-1])


def many_open(told):
    """How many events have an `any`."""
    return len([event for event in told if is_open(event)])


def shows_of(events):
    """All shows of some events, ascending."""
    told = tuple([tuple(event) for event in events])
    for number in range(1 << many_open(told)):
        yield show_at(told, number)


def events_behind(play, row):
    """The events of the calls of a row, one after the other, of a sound play."""
    picture = play.opening
    told = ()
    for call in row:
        shown = play.flow(call, picture)
        told = told + events_from(picture, shown.deeds)
        picture = shown.picture
    return told


def shows_in(play, row):
    """All shows of a row of calls, ascending."""
    sound_table(play)
    play.plan.node_behind(row)
    told = events_behind(play, row)
    if many_open(told) > MOST_OPEN:
        raise TooMany("show")
    return tuple(shows_of(told))
