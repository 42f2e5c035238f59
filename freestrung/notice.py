"""Notice: plays at which the next calls are heard ahead, and how much notice a crew needs."""

from freestrung.called import can_play
from freestrung.errors import BadBook, BadMost, TooMany, Unknown
from freestrung.forms import is_within
from freestrung.houses import Script
from freestrung.known import Known
from freestrung.plans import MOST_CALLS, MOST_NODES, Plan
from freestrung.scenes import MOST_SCENES, Book

MOST_NOTICE = 3
ALPHABET = "abcdefghijklmnopqrstuvwxyz"


def empty_name(book):
    """The name of the scene with the empty body."""
    names = ["h" + letter for letter in ALPHABET]
    return [name for name in names if name not in book][0]


def node_name(number):
    """The name of the node that was found as the one with this number."""
    return "n" + ALPHABET[number // len(ALPHABET)] + ALPHABET[number % len(ALPHABET)]


def node_at_end(plan, node, row):
    """The node to which a row of calls leads that begins at a node."""
    return node if len(row) == 0 else plan.calls[row[-1]][2]


def rows_from(plan, node, many):
    """All rows of just so many calls from a node on, ascending."""
    rows = [()]
    for _ in range(many):
        rows = [row + (call,) for row in rows for call in plan.calls_at(node_at_end(plan, node, row))]
    return rows


def windows_at(plan, node, scenes):
    """All windows at a node, with notice of so many scenes: the shut ones, then the open ones."""
    ending = [row for many in range(scenes) for row in rows_from(plan, node, many)
              if plan.is_end(node_at_end(plan, node, row))]
    return [(node, row, True) for row in ending] + [(node, row, False) for row in rows_from(plan, node, scenes)]


def windows_behind(plan, window):
    """The windows behind the first known call of one."""
    _, row, shut = window
    node = plan.calls[row[0]][2]
    if shut:
        return [(node, row[1:], True)]
    last = plan.calls[row[-1]][2]
    found = [(node, row[1:], True)] if plan.is_end(last) else []
    return found + [(node, row[1:] + (call,), False) for call in plan.calls_at(last)]


def links_from(plan, scenes, empty, window):
    """For each call at a node of the noticed play, in order, its scene and the window that it leads to."""
    if window is None:
        return [(empty, first) for first in windows_at(plan, plan.first, scenes)]
    node, row, _ = window
    if len(row) > 0:
        return [(plan.calls[row[0]][1], behind) for behind in windows_behind(plan, window)]
    if scenes > 0:
        return []
    calls = [plan.calls[number] for number in plan.calls_at(node)]
    return [(scene, (behind, (), False)) for _, scene, behind in calls]


def windows_explored(plan, scenes, empty):
    """All meanings of nodes, in order, and the calls of the noticed play, with numbers of nodes."""
    found = [None]
    numbers = {None: 0}
    calls = []
    at = 0
    while at < len(found):
        here = found[at]
        for scene, window in links_from(plan, scenes, empty, here):
            if window not in numbers:
                if len(found) == MOST_NODES:
                    raise TooMany("node")
                numbers[window] = len(found)
                found.append(window)
            calls.append((at, scene, numbers[window]))
        at += 1
    if len(calls) > MOST_CALLS:
        raise TooMany("call")
    return found, calls


def may_end_at(plan, scenes, window):
    """Whether a node of the noticed play is an end."""
    if window is None or len(window[1]) > 0:
        return False
    return plan.is_end(window[0])


class Noticed:
    """The play that comes of a play when the crew hears of so many more scenes ahead."""

    def __init__(self, play, scenes):
        if not is_within(scenes, 0, MOST_NOTICE):
            raise BadMost(scenes)
        if len(play.book) == MOST_SCENES:
            raise BadBook("scenes")
        empty = empty_name(play.book)
        found, links = windows_explored(play.plan, scenes, empty)
        self.meanings = tuple(found)
        self.named = tuple([node_name(number) for number in range(len(found))])
        ends = [name for name, window in zip(self.named, found) if may_end_at(play.plan, scenes, window)]
        calls = [(self.named[number], scene, self.named[behind]) for number, scene, behind in links]
        book = Book(play.book.cast, play.book.scenes + ((empty, ()),))
        self.play = play.changed(book=book, plan=Plan(self.named[0], ends, calls))

    def __len__(self):
        return len(self.meanings)

    def __iter__(self):
        return iter(self.meanings)

    def meaning_of(self, node):
        """The meaning of a node of the noticed play."""
        if node not in self.play.plan:
            raise Unknown(node)
        return self.meanings[self.named.index(node)]


def fewest_notice(play, crew):
    """With how little notice a crew can play every evening, or what keeps it from that."""
    known = Known(play, crew)
    if not known:
        return "never", known.row
    for scenes in range(MOST_NOTICE + 1):
        if can_play(Script(Noticed(play, scenes).play), crew):
            return "notice", scenes
    return "beyond", MOST_NOTICE
