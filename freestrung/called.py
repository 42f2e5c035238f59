"""Whether a crew can play every evening, whatever is called, and what tells that."""

from freestrung.arena import Calling, is_position, position_of
from freestrung.errors import BadRow, NotThere
from freestrung.forms import is_within
from freestrung.games import Game
from freestrung.houses import House, house_of


def playing_told(house, call, stand, number):
    """The playing of the answer with this number."""
    return list(house.answers(call, stand).values())[number][1]


def crew_table(house, game):
    """The crew's table: what comes about when each call is answered by the first good answer."""
    rows = []
    for number, chosen in game.played_well():
        node, stand = game.found[number]
        playings = [playing_told(house, call, stand, order) for call, order in chosen]
        rows.append((node, stand.held, tuple(playings)))
    return tuple(rows)


def caller_row(game, number):
    """The row of the caller's table for a lost position."""
    node, stand = game.found[number]
    move = game.lost_by(number)
    return node, stand.held, -1 if move is None else move, game.ranks[number]


def can_play(script, crew):
    """Whether a crew can play every evening of a sound play, called."""
    return 0 not in Game(Calling(House(script, crew))).ranks


class Called:
    """Whether a crew can play every evening, called."""

    def __init__(self, play, crew):
        house = house_of(play, crew)
        game = Game(Calling(house))
        self.found = tuple([(node, stand.held) for node, stand in game.found])
        self.ranks = {position: game.ranks.get(number, -1) for number, position in enumerate(self.found)}
        self.table = None
        self.caller = None
        if 0 in game.ranks:
            self.caller = tuple([caller_row(game, number) for number in sorted(list(game.ranks))])
        else:
            self.table = crew_table(house, game)
        self.told = self.caller if self.table is None else self.table

    def __bool__(self):
        return bool(self.table is not None)

    def __len__(self):
        return len(self.told)

    def __iter__(self):
        return iter(self.told)

    def __getitem__(self, at):
        if not is_within(at, 0, len(self.told) - 1):
            raise BadRow(at)
        return self.told[at]

    def __contains__(self, x):
        return is_position(x) and self.ranks.get(position_of(x), 0) == -1

    def rank(self, position):
        """The rank of a lost position, -1 for another one that was found."""
        if not is_position(position) or position_of(position) not in self.ranks:
            raise NotThere(position)
        return self.ranks[position_of(position)]
