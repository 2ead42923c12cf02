"""A shelf at work (point 16)."""

from restlesshelf.checks import check_habit, check_integer, check_layout, check_name, check_place
from restlesshelf.moves import move


class Shelf:
    """A shelf of a habit with a layout at first, all of whose books hold 0 then."""

    def __init__(self, habit, layout):
        check_habit(habit)
        check_layout(layout, len(habit))
        self._habit = habit
        self._stood = layout
        self._touched = []
        self._worths = [0] * len(habit)

    @property
    def layout(self):
        return self._stood

    @property
    def path(self):
        """The places touched so far, in order."""
        return tuple(self._touched)

    @property
    def held(self):
        """What the books 0, 1 and so on hold."""
        return tuple(self._worths)

    def read(self, place):
        """What stands at a place, which is touched by that."""
        check_place(place, len(self._habit))
        return self._worths[self._book_touched(place)]

    def write(self, place, value):
        """Writes an integer at a place, which is touched by that."""
        check_place(place, len(self._habit))
        check_integer(value)
        self._worths[self._book_touched(place)] = value

    def touch(self, place):
        check_place(place, len(self._habit))
        self._book_touched(place)

    def fetch(self, name):
        """What the book of a name holds, which is touched by that."""
        check_name(name, len(self._habit))
        return self.read(self._stood[name])

    def put(self, name, value):
        """Writes an integer into the book of a name, which is touched by that."""
        check_name(name, len(self._habit))
        self.write(self._stood[name], value)

    def _book_touched(self, place):
        """Touches a place, and names the book that stood there."""
        book = self._stood.index(place)
        self._stood = move(self._habit, self._stood, place)
        self._touched.append(place)
        return book
