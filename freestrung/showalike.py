"""Whether two sound plays show the same: spots, lots of spots, and shows."""

from freestrung.errors import BadMost, TooMany
from freestrung.forms import is_within
from freestrung.seen import closed, events_from
from freestrung.sound import Flows, sound_table

MOST_LOTS = 400
MOST_EVENTS = 30


class Watch:
    """What can be seen of a sound play: a lot of spots for each row of events."""

    def __init__(self, play):
        self.play = play
        self.flows = Flows(play)
        self.still = {}
        self.after = {}

    def begun(self, node, picture):
        """The spots at which a call at a node is begun, all its events due."""
        found = []
        for call in self.play.plan.calls_at(node):
            shown = self.flows.shown(call, picture)
            found.append((self.play.plan.calls[call][2], shown.picture, events_from(picture, shown.deeds)))
        return found

    def unseen(self, spot):
        """All spots that come behind one with nothing due before anything is seen; it is one of them."""
        if spot not in self.still:
            found = {spot: True}
            todo = [spot]
            while len(todo) > 0:
                node, picture, due = todo.pop()
                for behind in self.begun(node, picture) if len(due) == 0 else []:
                    if behind not in found:
                        found[behind] = True
                        todo.append(behind)
            self.still[spot] = list(found)
        return self.still[spot]

    def lot_at(self, spots):
        """The lot of some spots and of all that come behind them before anything is seen."""
        found = []
        for spot in spots:
            found.extend([spot] if len(spot[2]) > 0 else self.unseen(spot))
        return tuple(sorted(set(found)))

    def first_lot(self):
        """The lot of no events."""
        return self.lot_at([(self.play.plan.first, self.play.opening, ())])

    def onward(self, lot):
        """For each event that can come next, the lot behind it."""
        if lot not in self.after:
            self.after[lot] = self.lots_behind(lot)
        return self.after[lot]

    def lots_behind(self, lot):
        """The same, found anew."""
        behind = {}
        for node, picture, due in lot:
            for event in closed(due[0]) if len(due) > 0 else ():
                if event not in behind:
                    behind[event] = []
                behind[event].append((node, picture, due[1:]))
        return {event: self.lot_at(spots) for event, spots in behind.items()}

    def lot_behind_events(self, events):
        """The lot of a row of events."""
        lot = self.first_lot()
        for event in events:
            lot = self.onward(lot).get(tuple(event), ())
        return lot

    def may_stop(self, lot):
        """Whether a show may end at a lot."""
        return any([node in self.play.plan.ends and len(due) == 0 for node, _, due in lot])


def watched(play):
    """The Watch of a play; raises Spoilt if the play is not sound."""
    sound_table(play)
    return Watch(play)


def which_stops(sides, lots):
    """The number of the only one of two sides of which a show may end at its lot, or None."""
    first, second = [side.may_stop(lot) for side, lot in zip(sides, lots)]
    if first == second:
        return None
    return 0 if first else 1


def pairs_behind(sides, lots):
    """For each event that can come next on one of two sides, in order, the pair of lots behind it."""
    after = [side.onward(lot) for side, lot in zip(sides, lots)]
    events = sorted(set(list(after[0]) + list(after[1])))
    return [(event, (after[0].get(event, ()), after[1].get(event, ()))) for event in events]


def first_parting(sides):
    """The least show that only one of two sides has, and which one has it; a pair of None if there is none."""
    start = tuple([side.first_lot() for side in sides])
    rows = {}
    todo = [(start, ())]
    while len(todo) > 0:
        lots, row = todo.pop(0)
        if lots in rows:
            continue
        which = which_stops(sides, lots)
        if which is not None:
            return row, which
        if len(rows) == MOST_LOTS:
            raise TooMany("lot")
        rows[lots] = row
        todo.extend([(behind, row + (event,)) for event, behind in pairs_behind(sides, lots)])
    return None, None


class PlayAlike:
    """Whether two sound plays show the same, and the least show that only one of them has."""

    def __init__(self, play, other):
        row, which = first_parting((watched(play), watched(other)))
        self.row = row
        self.which = which

    def __bool__(self):
        return bool(self.row is None)


def lot_of(play, events):
    """The lot of a row of events: all spots at which a sound play can be when just these have been seen."""
    return watched(play).lot_behind_events(events)


def has_show(play, events):
    """Whether a row of events is a show of a sound play."""
    watch = watched(play)
    return watch.may_stop(watch.lot_behind_events(events))


def rows_onward(watch, rows):
    """From the number of rows of events for each lot, those with one event more."""
    found = {}
    for lot, many in rows.items():
        for behind in watch.onward(lot).values():
            found[behind] = found.get(behind, 0) + many
    return found


def show_counts(play, most):
    """The numbers of different shows of 0, 1, .., most events of a sound play."""
    if not is_within(most, 0, MOST_EVENTS):
        raise BadMost(most)
    watch = watched(play)
    rows = {watch.first_lot(): 1}
    lots = {}
    counts = []
    for number in range(most + 1):
        if number > 0:
            rows = rows_onward(watch, rows)
        for lot in rows:
            lots[lot] = True
        if len(lots) > MOST_LOTS:
            raise TooMany("lot")
        counts.append(sum([many for lot, many in rows.items() if watch.may_stop(lot)]))
    return tuple(counts)
