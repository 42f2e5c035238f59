"""The errors of the program; each one keeps what it was made with."""


class StrungError(ValueError):
    """The base of all other errors of this program."""


class BadName(StrungError):
    """A thing is no name."""

    def __init__(self, name):
        self.name = name


class BadCast(StrungError):
    """A puppet of a cast is none; -1 for the whole cast."""

    def __init__(self, number):
        self.number = number


class BadPicture(StrungError):
    """A thing is no picture, or none of the cast."""

    def __init__(self, picture):
        self.picture = picture


class BadDeed(StrungError):
    """A thing is no deed, or does not fit the picture."""

    def __init__(self, deed):
        self.deed = deed


class BadDeeds(StrungError):
    """A deed of a row is none, or does not fit; -1 for the whole row."""

    def __init__(self, number):
        self.number = number


class BadBook(StrungError):
    """A part of a book is not as it must be."""

    def __init__(self, word):
        self.word = word


class BadStatement(StrungError):
    """A scene has a statement that is none, or that stands too deep."""

    def __init__(self, scene):
        self.scene = scene


class BadPlan(StrungError):
    """A part of a plan is not as it must be."""

    def __init__(self, word):
        self.word = word


class BadLine(StrungError):
    """A word of a line cannot stand where it stands."""

    def __init__(self, line, word):
        self.line = line
        self.word = word


class BadLie(StrungError):
    """A word of a lie is none; -1 or the number of words for the whole lie."""

    def __init__(self, place):
        self.place = place


class BadPlace(StrungError):
    """A thing is none of the places that can be meant."""

    def __init__(self, place):
        self.place = place


class BadWay(StrungError):
    """A thing is no way."""

    def __init__(self, way):
        self.way = way


class BadCrossing(StrungError):
    """A crossing of a row is none; -1 for the whole row."""

    def __init__(self, number):
        self.number = number


class BadPassing(StrungError):
    """A passing of a row is none; -1 for the whole row."""

    def __init__(self, number):
        self.number = number


class BadCords(StrungError):
    """A thing is no number of cords that can be had."""

    def __init__(self, cords):
        self.cords = cords


class BadWires(StrungError):
    """A number of wires is none; -1 for all of them."""

    def __init__(self, number):
        self.number = number


class BadWinds(StrungError):
    """A wind is none; -1 for all of them."""

    def __init__(self, number):
        self.number = number


class BadCrew(StrungError):
    """One of the five numbers of a crew is none."""

    def __init__(self, word):
        self.word = word


class BadHold(StrungError):
    """A thing is no hold, or none that is lawful."""

    def __init__(self, hold):
        self.hold = hold


class BadStanding(StrungError):
    """A part of a standing is not as it must be."""

    def __init__(self, word):
        self.word = word


class BadRow(StrungError):
    """A row, or a thing of a row, is not as it must be; -1 for the whole."""

    def __init__(self, number):
        self.number = number


class BadCall(StrungError):
    """A thing is no number of a call that can be meant."""

    def __init__(self, number):
        self.number = number


class BadMost(StrungError):
    """A thing is no bound that can be set."""

    def __init__(self, most):
        self.most = most


class BadMends(StrungError):
    """A mend of a set is none, or stands there twice; -1 for the whole set."""

    def __init__(self, number):
        self.number = number


class BadScenes(StrungError):
    """A scene of a row is none, or stands there twice; -1 for the whole row."""

    def __init__(self, number):
        self.number = number


class TooMany(StrungError):
    """There are more of these than are let."""

    def __init__(self, word):
        self.word = word


class TooLong(StrungError):
    """There are more statements than are let; their number is told."""

    def __init__(self, number):
        self.number = number


class Twice(StrungError):
    """A name is given twice."""

    def __init__(self, name):
        self.name = name


class Unknown(StrungError):
    """Nothing has this name."""

    def __init__(self, name):
        self.name = name


class Ring(StrungError):
    """A scene calls itself, directly or through others."""

    def __init__(self, scene):
        self.scene = scene


class Stray(StrungError):
    """A node cannot be reached, or leads to no end."""

    def __init__(self, node):
        self.node = node


class Spoilt(StrungError):
    """A play is not sound: the flow of the last call of this row does not end."""

    def __init__(self, row):
        self.row = row


class Unlike(StrungError):
    """Two things are not of the same kind."""

    def __init__(self, word):
        self.word = word


class Uneven(StrungError):
    """A lie is not even."""

    def __init__(self, order):
        self.order = order


class Unplayable(StrungError):
    """A deed cannot be done so."""

    def __init__(self, number, word):
        self.number = number
        self.word = word


class NotDue(StrungError):
    """A thing is done when it is not due."""

    def __init__(self, word):
        self.word = word


class NotThere(StrungError):
    """A position is not there."""

    def __init__(self, position):
        self.position = position


class Torn(StrungError):
    """The heading of a journal cannot be read."""

    def __init__(self, line):
        self.line = line
