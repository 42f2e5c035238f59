"""Players who fall ill between calls, and whether a crew can play every evening all the same."""

from freestrung.arena import Calling
from freestrung.called import playing_told
from freestrung.errors import BadMost
from freestrung.forms import is_row, is_within
from freestrung.games import Game
from freestrung.houses import House, Script
from freestrung.judges import answers_calls, is_played_well
from freestrung.rows import without
from freestrung.standings import kept_parts

MOST_FALLS = 2


def holds_fallen(players, hold):
    """The holds behind the fall of each one of so many players, who hold this."""
    if players == 1:
        return []
    found = [without(hold, number) for number in range(len(hold))]
    if len(hold) < players:
        found.append(hold)
    return found


def fallen(crew, position):
    """All positions that a fall leads to, whatever the most falls are."""
    node, standing, away = position
    kept = kept_parts(standing)
    holds_left = holds_fallen(crew.players - away, kept[4])
    return tuple([(node, kept[:4] + (hold,), away + 1) for hold in holds_left])


def judge_falls_let(crew, most):
    """Raises BadMost for what is no bound on the falls of a crew."""
    if not is_within(most, 0, min(MOST_FALLS, crew.players - 1)):
        raise BadMost(most)


class Falling:
    """The rules of a called evening at which, between calls, players may fall ill."""

    def __init__(self, script, crew, most):
        judge_falls_let(crew, most)
        self.crew = crew
        self.most = most
        left = [crew.changed(players=crew.players - away) for away in range(most + 1)]
        self.callings = [Calling(House(script, few)) for few in left]

    def start(self):
        """The beginning."""
        return self.callings[0].start() + (0,)

    def moves_at(self, position):
        """The calls that can be made, each alone in a tuple, and the positions that falls lead to."""
        node, stand, away = position
        calls = [(call,) for call in self.callings[away].moves_at((node, stand))]
        return calls + self.falls_at((node, stand.held, away))

    def falls_at(self, position):
        """The positions that falls lead to, as far as there may be one more."""
        return list(fallen(self.crew, position)) if position[2] < self.most else []

    def answers_to(self, position, move):
        """The positions that the answers to a call lead to, or the one behind a fall."""
        if len(move) == 1:
            node, stand, away = position
            return [behind + (away,) for behind in self.callings[away].answers_to((node, stand), move[0])]
        node, standing, away = move
        return [(node, self.callings[away].house.rig.stand(standing), away)]

    def is_bound(self, position):
        """Whether the evening may be ended, while the standing is not free."""
        return self.callings[position[2]].is_bound(position[:2])


def falls_table(rules, game):
    """The table for falls: what comes about when each call is answered by the first good answer."""
    rows = []
    for number, chosen in game.played_well():
        node, stand, away = game.found[number]
        calls = [(move[0], order) for move, order in chosen if len(move) == 1]
        playings = [playing_told(rules.callings[away].house, call, stand, order) for call, order in calls]
        rows.append((node, stand.held, away, tuple(playings)))
    return tuple(rows)


class Falls:
    """Whether a crew can play every evening, called, with at most so many falls."""

    def __init__(self, play, crew, most):
        rules = Falling(Script(play), crew, most)
        game = Game(rules)
        self.found = len(game.found)
        self.table = None if 0 in game.ranks else falls_table(rules, game)
        self.told = () if self.table is None else self.table

    def __bool__(self):
        return bool(self.table is not None)

    def __len__(self):
        return len(self.told)

    def __iter__(self):
        return iter(self.told)


def kept_falls_row(rules, thing):
    """The node, the standing as tuples, the falls so far and the playings; None for what has not this form."""
    if not is_row(thing) or len(thing) != 4 or not is_within(thing[2], 0, rules.most):
        return None
    node, standing, away, playings = thing
    house = rules.callings[away].house
    if not house.is_at(node, standing) or not answers_calls(house, node, playings):
        return None
    return node, kept_parts(standing), away, playings


def is_right_row(rules, row, told):
    """Whether a row of a table is right by itself; `told` has the positions of all rows, for each number of falls."""
    node, standing, away, playings = row
    if not is_played_well(rules.callings[away].house, node, standing, playings, told[away]):
        return False
    return all([behind[:2] in told[away + 1] for behind in rules.falls_at((node, standing, away))])


def judge_falls(play, crew, most, table):
    """None if a table for falls is right, else the number of the first row that is wrong, or -1."""
    rules = Falling(Script(play), crew, most)
    rows = [kept_falls_row(rules, thing) for thing in table]
    told = [{} for _ in range(most + 1)]
    for row in rows:
        if row is not None:
            told[row[2]][row[:2]] = True
    if play.beginning not in told[0]:
        return -1
    for number, row in enumerate(rows):
        if row is None or not is_right_row(rules, row, told):
            return number
    return None


def most_falls(play, crew):
    """The most falls with which a crew can play every evening; -1 if it cannot even without."""
    script = Script(play)
    found = -1
    for most in range(min(MOST_FALLS, crew.players - 1) + 1):
        if 0 in Game(Falling(script, crew, most)).ranks:
            break
        found = most
    return found
