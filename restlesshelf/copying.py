"""Where copies can be met and written on several shelves, for values that are checked already (points 71 to 73)."""

from restlesshelf.errors import TooMany
from restlesshelf.moves import depths, least_word, move_stand, places_of_habit
from restlesshelf.rows import MOST_STANDS, all_stands


class StandTable:
    """The stands that can come from one, by numbers, and where each touch leads from each of them."""

    def __init__(self, habits, stand):
        self.touches = places_of_habit(habits[0])
        self.stands = all_stands(habits, stand)
        self.numbers = {one: number for number, one in enumerate(self.stands)}
        self.moved = [[self.numbers[move_stand(habits, one, place)] for place in self.touches] for one in self.stands]

    def word_between(self, one, other):
        """The least of the shortest words that lead one stand to another."""
        goal = self.numbers[other]
        return least_word(
            self.numbers[one],
            self.touches,
            lambda number, place: self.moved[number][place],
            lambda number: number == goal,
        )


class CopyWriting:
    """What deeds write of copies, at the stands of a table.

    A state is a pair of a stand's number and what is still to be written: the sum of 1, 2, 4 and so on for each copy
    of each shelf that is not set yet.
    """

    def __init__(self, table, copies):
        self.table = table
        # A set may be only where the sum of what it writes is not 0.
        self.written = [[sum_written(stand, copies, place) for place in table.touches] for stand in table.stands]
        self.deeds = [(word, place) for word in ("touch", "set") for place in table.touches]
        self.whole = (1 << (len(table.stands[0]) * len(copies))) - 1

    def step(self, state, deed):
        """The state behind a deed, the same one for a set that may not be there."""
        number, left = state
        word, place = deed
        if word == "set":
            if self.written[number][place] == 0:
                return state
            left -= left & self.written[number][place]
        return (self.table.moved[number][place], left)

    def step_to_unwritten(self, state, deed):
        """The same, but for deeds behind which nothing is left to be written."""
        further = self.step(state, deed)
        return further if further[1] > 0 else state

    def check_states(self):
        """Raises the error for too many stands with what is still to be written."""
        found = depths(
            (0, self.whole), self.deeds, lambda state, deed: self.step_to_unwritten(state, deed), MOST_STANDS
        )
        if len(found) > MOST_STANDS:
            raise TooMany(MOST_STANDS)

    def shortest_row(self, stand):
        """A row of as few deeds as can be that sets each copy on each shelf, None without one."""
        return least_word(
            (self.table.numbers[stand], self.whole),
            self.deeds,
            lambda state, deed: self.step(state, deed),
            lambda state: state[1] == 0,
        )


def sum_written(stand, copies, place):
    """What a set at a place writes: the sum for the copies that stand there, 0 if not in every layout one does."""
    written = 0
    for at, layout in enumerate(stand):
        book = layout.index(place)
        if book not in copies:
            return 0
        written += 1 << (at * len(copies) + copies.index(book))
    return written


def rows_of_copies(stand, copies):
    """The places at which copies stand, for each layout."""
    return tuple([tuple(sorted([layout[copy] for copy in copies])) for layout in stand])


def rows_moved(habits, rows, touch):
    return tuple([tuple(sorted([habit[touch][place] for place in row])) for habit, row in zip(habits, rows)])


def shared_place(rows):
    """The first place that is in all of several rows of places, None without one."""
    for place in rows[0]:
        if all([place in row for row in rows]):
            return place
    return None


def word_to_meet(habits, stand, copies):
    """The least of the shortest words behind which one of the copies is at one place in all layouts, None without."""
    return least_word(
        rows_of_copies(stand, copies),
        places_of_habit(habits[0]),
        lambda rows, touch: rows_moved(habits, rows, touch),
        lambda rows: shared_place(rows) is not None,
    )


def can_be_written(habits, stand, copies):
    """Whether copies can be written.

    From each stand one can come to each other one again, and what is set stays set. So it is enough that each copy of
    each shelf can be set at some stand.
    """
    shelves = range(len(habits))
    return all([can_be_set(habits, stand, copies, shelf, copy) for shelf in shelves for copy in copies])


def can_be_set(habits, stand, copies, shelf, copy):
    """Whether a copy of one shelf can be set at some stand: in each other layout then one of the copies is there."""
    rows = rows_of_copies(stand, copies)
    others = [at for at in range(len(habits)) if at != shelf]
    other_habits = [habits[at] for at in others]
    return least_word(
        (stand[shelf][copy], tuple([rows[at] for at in others])),
        places_of_habit(habits[0]),
        lambda state, touch: (habits[shelf][touch][state[0]], rows_moved(other_habits, state[1], touch)),
        lambda state: all([state[0] in row for row in state[1]]),
    ) is not None
