"""Whether two scenes show alike, or are the same, and how a scene ends from all pictures."""

from freestrung.errors import Unknown, Unlike
from freestrung.flows import flow
from freestrung.pictures import pictures
from freestrung.seen import events_from

ENDINGS = ("ends", "spoilt", "round", "long")


def are_same(one, other):
    """Whether two flows have the same deeds and end in the same way."""
    return one.deeds == other.deeds and one.ended == other.ended


def are_alike(picture, one, other):
    """Whether two flows from a picture show the same, leave the same and end in the same way."""
    if one.picture != other.picture or one.ended != other.ended:
        return False
    return events_from(picture, one.deeds) == events_from(picture, other.deeds)


def compared(book, scene, other, other_scene):
    """The least picture from which two scenes are not alike, or None; and whether they are the same."""
    same = True
    for picture in pictures(book.cast):
        one = flow(book, scene, picture)
        two = flow(other, other_scene, picture)
        if not are_same(one, two):
            same = False
            if not are_alike(picture, one, two):
                return picture, False
    return None, same


class SceneAlike:
    """Whether two scenes of books with equal casts are alike, and from which picture not."""

    def __init__(self, book, scene, other, other_scene):
        if scene not in book:
            raise Unknown(scene)
        if other_scene not in other:
            raise Unknown(other_scene)
        if book.cast != other.cast:
            raise Unlike("casts")
        picture, told = compared(book, scene, other, other_scene)
        self.picture = picture
        self.told = told

    def __bool__(self):
        return bool(self.picture is None)

    @property
    def same(self):
        """Whether the scenes have the same deeds from all pictures, and end in the same way."""
        return self.told


def endings(book, scene):
    """For each way to end, from how many pictures of the cast the flow ends so, and the least of them."""
    found = {word: [] for word in ENDINGS}
    for picture in pictures(book.cast):
        found[flow(book, scene, picture).ended].append(picture)
    return tuple([
        (word, len(ending), ending[0] if len(ending) > 0 else None) for word, ending in found.items()
    ])
