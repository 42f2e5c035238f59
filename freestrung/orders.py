"""Matinees: some scenes, each played once, in the order that takes the fewest moves."""

from freestrung.errors import BadScenes, BadStanding
from freestrung.flows import flow
from freestrung.forms import is_row, is_whole, is_within
from freestrung.games import positions_explored
from freestrung.outcomes import layer_found
from freestrung.rigs import Rig
from freestrung.standings import kept_parts, picture_of, wrong_part

MOST_SCENES_PLAYED = 4


def wrong_part_in(book, crew, thing):
    """The word for the first part of a standing that is not as it must be for a book and a crew, or None."""
    word = wrong_part(thing, crew)
    if word != "row" and not all([name in book.cast for name in thing[0]]):
        return "row"
    return word


def judge_given(book, crew, standing, scenes):
    """Raises what is due for a standing and scenes that are not as they must be."""
    word = wrong_part_in(book, crew, standing)
    if word is not None:
        raise BadStanding(word)
    if not is_row(scenes) or not 1 <= len(scenes) <= MOST_SCENES_PLAYED:
        raise BadScenes(-1)
    for number, scene in enumerate(scenes):
        if scene not in book or scene in scenes[:number]:
            raise BadScenes(number)


class Matinee:
    """The rules of a matinee: a scene that is left is played, in one of the ways in which it can be."""

    def __init__(self, book, crew, standing, scenes):
        judge_given(book, crew, standing, scenes)
        self.book = book
        self.crew = crew
        self.names = tuple(scenes)
        self.rig = Rig(crew)
        self.given = kept_parts(standing)
        self.answered = {}

    def start(self):
        """All scenes are left."""
        return tuple(range(len(self.names))), self.rig.stand(self.given)

    def moves_at(self, position):
        """The numbers of the scenes that are left."""
        return position[0]

    def ways_played(self, number, stand):
        """For each Stand to which a scene can lead, its moves and a playing; none if its flow does not end."""
        if (number, stand) not in self.answered:
            shown = flow(self.book, self.names[number], picture_of(stand.held))
            found = layer_found(self.rig, (stand.held,), shown.deeds, cheap=True) if shown else {}
            self.answered[number, stand] = found
        return self.answered[number, stand]

    def answers_to(self, position, move):
        """What is left, and where, when a scene was played."""
        left, stand = position
        others = tuple([number for number in left if number != move])
        return [(others, after) for after in self.ways_played(move, stand)]


def prices_of(rules, found, links):
    """The price of each position, by its number."""
    prices = {}
    # Behind a position fewer scenes are left, so what it needs stands further behind.
    for number in range(len(found) - 1, -1, -1):
        left, stand = found[number]
        told = [] if len(left) > 0 else [0]
        for scene, behind in links[number]:
            ways = list(rules.ways_played(scene, stand).values())
            told.extend([way[0] + prices[after] for way, after in zip(ways, behind) if prices[after] != -1])
        prices[number] = min(told, default=-1)
    return prices


def cheap_ways(rules, told, ends, scene):
    """Where a scene leads from some ends at no more than their price: each Stand with the playings up to there."""
    found = {}
    for (left, stand), playings in ends.items():
        others = tuple([number for number in left if number != scene])
        for after, (moves, playing) in rules.ways_played(scene, stand).items():
            price = told[others, after]
            if price != -1 and moves + price == told[left, stand]:
                found.setdefault((others, after), playings + (playing,))
    return found


def cheapest(rules, told):
    """The scenes of the cheapest order, and playings for them; `told` has the prices of all positions."""
    order = ()
    # All ends of the cheapest order so far that are as cheap: a later scene may go on from some of them only.
    ends = {rules.start(): ()}
    while len(order) < len(rules.names):
        ways = [(scene, cheap_ways(rules, told, ends, scene)) for scene in range(len(rules.names))
                if scene not in order]
        scene, ends = [way for way in ways if len(way[1]) > 0][0]
        order = order + (scene,)
    return order, list(ends.values())[0]


class Cheapest:
    """The cheapest order of some scenes of a book."""

    def __init__(self, book, crew, standing, scenes):
        rules = Matinee(book, crew, standing, scenes)
        found, links = positions_explored(rules)
        prices = prices_of(rules, found, links)
        self.table = tuple([(left, stand.held, prices[number]) for number, (left, stand) in enumerate(found)])
        self.price = None
        self.order = None
        self.playings = None
        if prices[0] != -1:
            told = {position: prices[number] for number, position in enumerate(found)}
            order, playings = cheapest(rules, told)
            self.price = prices[0]
            self.order = tuple([rules.names[scene] for scene in order])
            self.playings = playings

    def __bool__(self):
        return bool(self.price is not None)

    def __len__(self):
        return len(self.table)

    def __iter__(self):
        return iter(self.table)


def are_left(thing, many):
    """Whether a thing is an ascending tuple of numbers of so many scenes."""
    if not is_row(thing) or not all([is_within(number, 0, many - 1) for number in thing]):
        return False
    return all([one < other for one, other in zip(thing, thing[1:])])


def kept_price_row(rules, thing):
    """The scenes that are left, the standing and the price, as tuples; None for what has not this form."""
    if not is_row(thing) or len(thing) != 3 or not are_left(thing[0], len(rules.names)):
        return None
    if wrong_part_in(rules.book, rules.crew, thing[1]) is not None or not is_whole(thing[2]):
        return None
    return tuple(thing[0]), kept_parts(thing[1]), thing[2]


def is_right_price(rules, row, told):
    """Whether a row of a table is right by itself; `told` has the first price of each position."""
    left, standing, price = row
    if len(left) == 0:
        return price == 0
    found = []
    for scene in left:
        others = tuple([number for number in left if number != scene])
        for after, (moves, _) in rules.ways_played(scene, rules.rig.stand(standing)).items():
            if (others, after.held) not in told:
                return False
            if told[others, after.held] != -1:
                found.append(moves + told[others, after.held])
    return price == min(found, default=-1)


def judge_prices(book, crew, standing, scenes, table):
    """None if a table of prices is right, else the number of the first row that is wrong, or -1."""
    rules = Matinee(book, crew, standing, scenes)
    rows = [kept_price_row(rules, thing) for thing in table]
    told = {}
    for row in rows:
        if row is not None:
            told.setdefault(row[:2], row[2])
    left, stand = rules.start()
    if (left, stand.held) not in told:
        return -1
    for number, row in enumerate(rows):
        if row is None or not is_right_price(rules, row, told):
            return number
    return None
