"""The error classes of the whole program."""

import unittest

from freestrung import errors
from freestrung.errors import StrungError

LISTED = """BadName(name), BadCast(number), BadPicture(picture), BadDeed(deed), BadDeeds(number),
BadBook(word), BadStatement(scene), BadPlan(word), BadLine(line, word), BadLie(place), BadPlace(place),
BadWay(way), BadCrossing(number), BadPassing(number), BadCords(cords), BadWires(number), BadWinds(number),
BadCrew(word), BadHold(hold), BadStanding(word), BadRow(number), BadCall(number), BadMost(most),
BadMends(number), BadScenes(number), TooMany(word), TooLong(number), Twice(name), Unknown(name), Ring(scene),
Stray(node), Spoilt(row), Unlike(word), Uneven(order), Unplayable(number, word), NotDue(word),
NotThere(position), Torn(line)"""


def told():
    """The pairs of a name and the attributes of each class."""
    for part in LISTED.replace("\n", " ").split("), "):
        name, attributes = part.rstrip(")").split("(")
        yield name.strip(), attributes.split(", ")


class ErrorsTest(unittest.TestCase):
    def test_all_classes_are_there_directly_under_the_base(self):
        self.assertEqual(len(list(told())), 38)
        self.assertEqual(StrungError.__bases__, (ValueError,))
        for name, _ in told():
            kind = getattr(errors, name)
            self.assertEqual(kind.__bases__, (StrungError,), name)
            self.assertEqual(kind.__module__, "freestrung.errors")

    def test_each_keeps_what_it_was_made_with(self):
        for name, attributes in told():
            kind = getattr(errors, name)
            things = [[object()] for _ in attributes]
            error = kind(*things)
            for attribute, thing in zip(attributes, things):
                self.assertIs(getattr(error, attribute), thing, name)
            error = kind(**dict(zip(attributes, things)))
            for attribute, thing in zip(attributes, things):
                self.assertIs(getattr(error, attribute), thing, name)

    def test_each_takes_no_more_and_no_less(self):
        for name, attributes in told():
            kind = getattr(errors, name)
            with self.assertRaises(TypeError):
                kind(*([0] * (len(attributes) + 1)))
            with self.assertRaises(TypeError):
                kind(*([0] * (len(attributes) - 1)))

    def test_messages_can_be_made(self):
        for name, attributes in told():
            self.assertIsInstance(str(getattr(errors, name)(*attributes)), str)
        self.assertEqual(str(StrungError("why")), "why")


if __name__ == "__main__":
    unittest.main()
