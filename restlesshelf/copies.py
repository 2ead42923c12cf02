"""Copies: several books that hold one value together, so that it can be met on more shelves (points 71, 72 and 73)."""

from restlesshelf.checks import (
    MOST_TOUCHES,
    check_copies,
    check_habits,
    check_stand,
    is_integer,
    is_lot,
    is_place,
    is_row,
)
from restlesshelf.copying import (
    CopyWriting,
    StandTable,
    can_be_written,
    rows_of_copies,
    shared_place,
    sum_written,
    word_to_meet,
)
from restlesshelf.errors import BadCopies, NoWay
from restlesshelf.flows import is_access, names_used, reached_of
from restlesshelf.moves import move_stand
from restlesshelf.planning import rows_of
from restlesshelf.rows import check_program_for_all, check_stands
from restlesshelf.writing import ways_from, written_out


def copies_met(habits, stand, copies):
    """The least word behind which one of the copies is at one place in all layouts, and this place; None without."""
    check_copies_on_shelves(habits, stand, copies)
    check_stands(habits, stand)
    word = word_to_meet(habits, stand, copies)
    if word is None:
        return None
    return (word, shared_place(rows_of_copies(stand_behind_word(habits, stand, word), copies)))


def copies_written(habits, stand, copies):
    """As few deeds as can be that set each of the copies on each shelf, None without any."""
    check_copies_on_shelves(habits, stand, copies)
    writing = CopyWriting(StandTable(habits, stand), copies)
    writing.check_states()
    return writing.shortest_row(stand)


def shows_written(habits, stand, copies, value):
    """Whether a value is a row of deeds that set each of the copies on each shelf, short or not."""
    check_copies_on_shelves(habits, stand, copies)
    if not is_row(value, 0, MOST_TOUCHES) or not all([is_deed(deed, len(habits[0])) for deed in value]):
        return False
    left = (1 << (len(habits) * len(copies))) - 1
    for word, place in value:
        if word == "set":
            written = sum_written(stand, copies, place)
            if written == 0:
                return False
            left -= left & written
        stand = move_stand(habits, stand, place)
    return left == 0


def least_copies(habits, stand, program):
    """Copies for the used names that serve a still program, with the fewest books in all; None without any."""
    check_program_for_all(habits, stand, program)
    check_stands(habits, stand)
    serving = Serving(habits, stand, program)
    for sets in all_sets(names_used(program), len(habits[0])):
        if serving.is_served(sets):
            return sets
    return None


def written_with(habits, stand, program, sets):
    """A restless program that says on each shelf what a still one says, each of whose names is held by copies."""
    check_program_for_all(habits, stand, program)
    if not are_sets(sets, names_used(program), len(habits[0])):
        raise BadCopies("no copies for the used names")
    # This comes first, since the errors for too many stands come after all others.
    if not Serving(habits, stand, program).is_served(sets):
        raise NoWay("the copies do not serve the program")
    hands = CopyHands(habits, stand, program, sets)
    ahead, words = ways_from(
        program,
        stand,
        lambda at, one: hands.made_ready(one, at),
        lambda at, one: hands.left_behind(one, at),
        lambda one, other: hands.table.word_between(one, other),
    )
    deeds = {at: hands.deeds_of(ahead[at], at) for at in ahead if is_access(program[at])}
    return written_out(program, deeds, words)


def check_copies_on_shelves(habits, stand, copies):
    check_habits(habits)
    check_stand(stand, habits)
    check_copies(copies, len(habits[0]))


def is_deed(value, places):
    return is_row(value, 2, 2) and value[0] in ("touch", "set") and is_place(value[1], places)


def stand_behind_word(habits, stand, word):
    for place in word:
        stand = move_stand(habits, stand, place)
    return stand


def are_sets(value, names, places):
    """Whether a value is a tuple of pairs of a name and its copies, for these names, no book in two of them."""
    if not is_row(value, len(names), len(names)) or not all([is_row(pair, 2, 2) for pair in value]):
        return False
    for name, (told, copies) in zip(names, value):
        if not is_integer(told) or told != name or not is_lot(copies, places):
            return False
    books = [book for _, copies in value for book in copies]
    return len(set(books)) == len(books)


def all_sets(names, places):
    """All copies that names may have on a shelf, those with fewer books in all first, and then the first as a tuple."""
    found = []
    # Each book belongs to the name of a number, or, for the last number, to none.
    for row in rows_of(len(names) + 1, places):
        books = [tuple([book for book in range(places) if row[book] == number]) for number in range(len(names))]
        if all([len(copies) > 0 for copies in books]):
            found.append((sum([len(copies) for copies in books]), tuple(zip(names, books))))
    return [sets for _, sets in sorted(found)]


class Serving:
    """Which copies serve a still program on several shelves."""

    def __init__(self, habits, stand, program):
        self.habits = habits
        self.stand = stand
        accesses = [program[at] for at in reached_of(program) if is_access(program[at])]
        self.names_set = [name for word, name in accesses if word == "set"]
        self.names_read = [name for word, name in accesses if word != "set"]
        self.meets = {}
        self.writes = {}

    def is_served(self, sets):
        return all([self.is_name_served(name, copies) for name, copies in sets])

    def is_name_served(self, name, copies):
        if name in self.names_read and not self.is_met(copies):
            return False
        return name not in self.names_set or self.is_written(copies)

    def is_met(self, copies):
        if copies not in self.meets:
            self.meets[copies] = word_to_meet(self.habits, self.stand, copies) is not None
        return self.meets[copies]

    def is_written(self, copies):
        if copies not in self.writes:
            self.writes[copies] = can_be_written(self.habits, self.stand, copies)
        return self.writes[copies]


class CopyHands:
    """How the accesses of a still program are done with copies, from the stands that are ahead of them."""

    def __init__(self, habits, stand, program, sets):
        self.habits = habits
        self.program = program
        self.copies = dict(sets)
        self.table = StandTable(habits, stand)
        self.writings = {}
        for at in reached_of(program):
            if program[at][0] == "set" and program[at][1] not in self.writings:
                self.add_writing(program[at][1])
        self.rows = {}

    def add_writing(self, name):
        self.writings[name] = CopyWriting(self.table, self.copies[name])
        self.writings[name].check_states()

    def made_ready(self, stand, at):
        """The nearest stand with which an instruction can be done, and the word to it."""
        instruction = self.program[at]
        if not is_access(instruction) or instruction[0] == "set":
            return stand, ()
        word = word_to_meet(self.habits, stand, self.copies[instruction[1]])
        return stand_behind_word(self.habits, stand, word), word

    def deeds_of(self, stand, at):
        """The instructions that do an access from a stand that is ready for it."""
        word, name = self.program[at]
        if word != "set":
            return ((word, shared_place(rows_of_copies(stand, self.copies[name]))),)
        if (stand, name) not in self.rows:
            self.rows[stand, name] = self.writings[name].shortest_row(stand)
        return self.rows[stand, name]

    def left_behind(self, stand, at):
        """The stand behind an instruction that is done from a stand that is ready for it."""
        if not is_access(self.program[at]):
            return stand
        return stand_behind_word(self.habits, stand, [place for _, place in self.deeds_of(stand, at)])
