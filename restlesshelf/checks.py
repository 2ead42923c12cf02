"""What a value must be to be allowed as an argument."""

from restlesshelf.errors import (
    BadCopies,
    BadHabit,
    BadHabits,
    BadInputs,
    BadLayout,
    BadLayouts,
    BadNames,
    BadNumber,
    BadPlace,
    BadProgram,
    BadStand,
    BadString,
    BadWord,
)

FEWEST_PLACES = 2
MOST_PLACES = 5
MOST_TOUCHES = 400
MOST_INPUTS = 50
MOST_HABITS = 3
MOST_START_LAYOUTS = 24
MOST_STILL = 200
MOST_RESTLESS = 4000
GREATEST = 1000000
ACCESSES = ("get", "set", "plus", "minus")
BARE = ("say", "ask", "stop")
JUMPS = ("zero", "go")


def is_integer(value):
    # Python counts True and False as integers, the document does not.
    return isinstance(value, int) and not isinstance(value, bool)


def is_number(value, low, high):
    return is_integer(value) and low <= value <= high


def is_row(value, low, high):
    """Whether a value is a tuple of low to high things."""
    return isinstance(value, tuple) and low <= len(value) <= high


def is_place(value, places):
    return is_number(value, 0, places - 1)


def are_places(value, places):
    """Whether a value is a tuple of places, however many."""
    return isinstance(value, tuple) and all([is_place(place, places) for place in value])


def is_rising(row):
    """Whether each thing of a tuple is greater than the one before it."""
    return all([one < other for one, other in zip(row, row[1:])])


def is_layout(value, places):
    """Whether a value is a layout or, which looks alike, a permutation of so many places."""
    return are_places(value, places) and sorted(value) == list(range(places))


def is_word(value, places):
    return is_row(value, 0, MOST_TOUCHES) and are_places(value, places)


def is_habit(value):
    return is_row(value, FEWEST_PLACES, MOST_PLACES) and all([is_layout(moves, len(value)) for moves in value])


def is_instruction(value, places, count, is_restless):
    """Whether a value is an instruction of a program of so many places and instructions."""
    if not is_row(value, 1, 2) or not isinstance(value[0], str):
        return False
    word = value[0]
    if word in BARE:
        return len(value) == 1
    if len(value) == 1:
        return False
    if word in JUMPS:
        return is_number(value[1], 0, count)
    if word == "put":
        return is_number(value[1], -GREATEST, GREATEST)
    if word in ACCESSES or (word == "touch" and is_restless):
        return is_place(value[1], places)
    return False


def check_number(value, low, high):
    if not is_number(value, low, high):
        raise BadNumber(f"no number from {low} to {high}")


def check_integer(value):
    if not is_integer(value):
        raise BadNumber("no integer")


def check_string(text):
    if not isinstance(text, str):
        raise BadString("no string")


def check_places(places):
    """Checks the number of places of a shelf."""
    check_number(places, FEWEST_PLACES, MOST_PLACES)


def check_habit(habit):
    if not is_row(habit, FEWEST_PLACES, MOST_PLACES):
        raise BadHabit(None)
    for place, moves in enumerate(habit):
        if not is_layout(moves, len(habit)):
            raise BadHabit(place)


def check_habits(habits, most=MOST_HABITS):
    """Checks habits of shelves with as many places."""
    if not is_row(habits, 1, most):
        raise BadHabits(None)
    for index, habit in enumerate(habits):
        if not is_habit(habit) or len(habit) != len(habits[0]):
            raise BadHabits(index)


def check_stand(stand, habits):
    """Checks a stand for habits that are checked already."""
    if not is_row(stand, len(habits), len(habits)):
        raise BadStand(None)
    for index, layout in enumerate(stand):
        if not is_layout(layout, len(habits[0])):
            raise BadStand(index)


def check_layout(layout, places):
    if not is_layout(layout, places):
        raise BadLayout(f"no layout of {places} places")


def check_row(row, most):
    """Checks a row of the unlike numbers 0, 1 and so on, of 1 to most: an order, or a layout of a shelf of any size."""
    if not is_row(row, 1, most) or not is_layout(row, len(row)):
        raise BadLayout(f"no row of 1 to {most} unlike numbers")


def check_place(place, places):
    if not is_place(place, places):
        raise BadPlace(f"no place of {places} places")


def is_lot(value, places):
    """Whether a value is an ascending tuple of at least one place or, which looks alike, book."""
    return is_row(value, 1, places) and are_places(value, places) and is_rising(value)


def check_lot(lot, places):
    if not is_lot(lot, places):
        raise BadPlace("no ascending tuple of places")


def check_copies(copies, places):
    if not is_lot(copies, places):
        raise BadCopies("no ascending tuple of books")


def check_layouts(layouts, places):
    """Checks the layouts that a shelf may have, of which nobody knows which one it is."""
    if not is_row(layouts, 1, MOST_START_LAYOUTS) or not all([is_layout(layout, places) for layout in layouts]):
        raise BadLayouts("no tuple of so many layouts")
    if not is_rising(layouts):
        raise BadLayouts("the layouts do not ascend")


def check_name(name, places):
    # As many books as places, and called as these are.
    if not is_place(name, places):
        raise BadNames(f"no name of {places} books")


def check_names(names, places, most):
    if not is_row(names, 0, most) or not are_places(names, places):
        raise BadNames(f"no tuple of at most {most} names of {places} books")


def check_word(word, places):
    if not is_word(word, places):
        raise BadWord(f"no word of places among {places}")


def check_program(program, places, most, is_restless):
    if not is_row(program, 1, most):
        raise BadProgram(None)
    for index, instruction in enumerate(program):
        if not is_instruction(instruction, places, len(program), is_restless):
            raise BadProgram(index)


def check_still(program, places):
    check_program(program, places, MOST_STILL, False)


def check_restless(program, places):
    check_program(program, places, MOST_RESTLESS, True)


def check_inputs(inputs):
    if not is_row(inputs, 0, MOST_INPUTS):
        raise BadInputs("no tuple of so many inputs")
    if not all([is_number(number, -GREATEST, GREATEST) for number in inputs]):
        raise BadInputs("an input is no integer within the bounds")
