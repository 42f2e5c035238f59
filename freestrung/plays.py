"""Plays: a book, a plan that calls its scenes, and the picture at the beginning."""

from freestrung.errors import BadPicture, Unknown
from freestrung.flows import flow
from freestrung.pictures import is_picture, kept_picture
from freestrung.standings import standing_of


class Play:
    """A book, a plan and an opening."""

    def __init__(self, book, plan, opening):
        for call in plan.calls:
            if call[1] not in book:
                raise Unknown(call[1])
        if not is_picture(opening, book.cast):
            raise BadPicture(opening)
        self.book = book
        self.plan = plan
        self.opening = kept_picture(opening)

    def __eq__(self, other):
        return (isinstance(other, Play) and self.book == other.book
                and self.plan == other.plan and self.opening == other.opening)

    @property
    def beginning(self):
        """The position at which every evening begins."""
        return self.plan.first, standing_of(self.opening)

    def flow(self, call, picture):
        """The flow of the scene of a call from a picture."""
        return flow(self.book, self.plan[call][1], picture)

    def changed(self, **parts):
        """The play with some of its three parts exchanged."""
        told = {"book": self.book, "plan": self.plan, "opening": self.opening}
        told.update(parts)
        return Play(**told)

    def picture_behind(self, row):
        """The picture behind a row of calls, or None if one of its flows does not end."""
        self.plan.node_behind(row)
        picture = self.opening
        for call in row:
            shown = self.flow(call, picture)
            if not shown:
                return None
            picture = shown.picture
        return picture
