"""Games: positions at which somebody makes a move and a crew answers, and which of them are lost for the crew.

The rules of a game are an object with `start()`, `moves_at(position)`, `answers_to(position, move)` (the positions
that the answers lead to, in order) and `is_bound(position)` (whether the crew is lost there at once).
"""

from freestrung.errors import TooMany

MOST_POSITIONS = 600


def positions_explored(rules):
    """All positions in order, and for each of them its moves, with the numbers of the positions behind them."""
    found = [rules.start()]
    numbers = {found[0]: 0}
    links = []
    while len(links) < len(found):
        here = found[len(links)]
        told = []
        for move in rules.moves_at(here):
            behind = rules.answers_to(here, move)
            for position in behind:
                if position not in numbers:
                    if len(found) == MOST_POSITIONS:
                        raise TooMany("position")
                    numbers[position] = len(found)
                    found.append(position)
            told.append((move, [numbers[position] for position in behind]))
        links.append(told)
    return found, links


class Game:
    """All positions of a game, and for each lost one its rank."""

    def __init__(self, rules):
        found, links = positions_explored(rules)
        self.found = found
        self.links = links
        self.ranks = ranks_of([rules.is_bound(position) for position in found], links)

    def first_good(self, behind):
        """The number, among these positions behind a move, of the first that is not lost."""
        good = [number not in self.ranks for number in behind]
        return good.index(True)

    def lost_by(self, number):
        """The first move at a lost position behind which all ranks are below its own; None if it is lost at once."""
        rank = self.ranks[number]
        for move, behind in self.links[number] if rank > 0 else []:
            if all([self.ranks.get(after, rank) < rank for after in behind]):
                return move
        return None

    def played_well(self):
        """What comes about when the crew answers by the first good answers.

        Told are pairs of the number of a position and, for each move there, the move and the number of the answer.
        """
        found = [0]
        rows = []
        while len(rows) < len(found):
            here = found[len(rows)]
            chosen = [(move, self.first_good(behind)) for move, behind in self.links[here]]
            for (_, number), (_, behind) in zip(chosen, self.links[here]):
                if behind[number] not in found:
                    found.append(behind[number])
            rows.append((here, chosen))
        return rows


def leading_to(links):
    """For each position the pairs of a position and the number of a move there that can lead to it."""
    leading = [[] for _ in links]
    for number, told in enumerate(links):
        for order, (_, behind) in enumerate(told):
            for after in behind:
                leading[after].append((number, order))
    return leading


def ranks_of(bound, links):
    """The rank of each lost position, by its number, when it is told which of them are lost at once."""
    # How many answers to each move are not lost yet; when none is left, the position is lost.
    left = [[len(behind) for _, behind in told] for told in links]
    leading = leading_to(links)
    ranks = {number: 0 for number, lost in enumerate(bound) if lost}
    newly = list(ranks)
    stuck = [number for number, counts in enumerate(left) if 0 in counts]
    rank = 0
    while rank == 0 or len(newly) > 0:
        rank += 1
        for lost in newly:
            for number, order in leading[lost]:
                left[number][order] -= 1
                if left[number][order] == 0:
                    stuck.append(number)
        newly = []
        for number in stuck:
            if number not in ranks:
                ranks[number] = rank
                newly.append(number)
        stuck = []
    return ranks
