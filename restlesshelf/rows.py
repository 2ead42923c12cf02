"""Several shelves, of which nobody knows which one it is (points 9, 10 and 11)."""

from restlesshelf.carrying import is_carried
from restlesshelf.checks import (
    MOST_TOUCHES,
    check_habits,
    check_name,
    check_names,
    check_restless,
    check_stand,
    check_still,
    is_word,
)
from restlesshelf.errors import NoWay, TooMany
from restlesshelf.flows import is_access, names_used
from restlesshelf.moves import depths, least_word, move_stand, places_of_habit
from restlesshelf.writing import ways_from, written_out

MOST_STANDS = 20000
MOST_ROW = 12


def stands(habits, stand):
    """The stands that words lead to, ascending."""
    check_habits(habits)
    check_stand(stand, habits)
    return tuple(sorted(all_stands(habits, stand)))


def meeting(habits, stand, name):
    """The least of the shortest words behind which a name stands at one place in all layouts, None without one."""
    check_habits(habits)
    check_stand(stand, habits)
    check_name(name, len(habits[0]))
    check_stands(habits, stand)
    return meeting_word(habits, stand, name)


def names_met(habits, stand):
    """The names that can be brought to one place in all layouts, ascending."""
    check_habits(habits)
    check_stand(stand, habits)
    check_stands(habits, stand)
    return names_that_meet(habits, stand)


def access_row(habits, stand, names):
    """A shortest word that accesses a row of names, None without one."""
    check_row(habits, stand, names)
    return shortest_access(habits, stand, names)


def shows_access_row(habits, stand, names, value):
    """Whether a value is what access_row may return."""
    check_row(habits, stand, names)
    shortest = shortest_access(habits, stand, names)
    if shortest is None or value is None:
        return shortest is None and value is None
    if not is_word(value, len(habits[0])) or len(value) != len(shortest):
        return False
    state = (stand, 0)
    for place in value:
        state = row_step(habits, names, state, place)
    return state[1] == len(names)


def carries_all(habits, stand, program, restless):
    """Whether a restless program carries a still one from each layout of a stand on a shelf of its habit."""
    check_program_for_all(habits, stand, program)
    check_restless(restless, len(habits[0]))
    check_stands(habits, stand)
    return all([is_carried(habit, layout, program, restless) for habit, layout in zip(habits, stand)])


def can_carry(habits, stand, program):
    """Whether some restless program carries a still one from each layout of a stand on a shelf of its habit."""
    check_program_for_all(habits, stand, program)
    check_stands(habits, stand)
    return is_met_throughout(habits, stand, program)


def written_for_all(habits, stand, program):
    """A restless program that carries a still one from each layout of a stand on a shelf of its habit."""
    check_program_for_all(habits, stand, program)
    # This comes first, since the error for too many stands comes after all others.
    if not is_met_throughout(habits, stand, program):
        raise NoWay("a name that the program uses cannot be brought to one place on all shelves at once")
    check_stands(habits, stand)
    ahead, words = ways_from(
        program,
        stand,
        lambda at, one: ready_stand(habits, one, program[at]),
        lambda at, one: stand_behind(habits, one, program[at]),
        lambda one, other: word_to_stand(habits, one, other),
    )
    deeds = {at: ((program[at][0], ahead[at][0][program[at][1]]),) for at in ahead if is_access(program[at])}
    return written_out(program, deeds, words)


def check_program_for_all(habits, stand, program):
    check_habits(habits)
    check_stand(stand, habits)
    check_still(program, len(habits[0]))


def check_row(habits, stand, names):
    check_habits(habits)
    check_stand(stand, habits)
    check_names(names, len(habits[0]), MOST_ROW)
    check_stands(habits, stand)


def check_stands(habits, stand):
    """Raises the error for too many stands."""
    all_stands(habits, stand)


def all_stands(habits, stand):
    """The stands that words lead to."""
    touches = places_of_habit(habits[0])
    found = depths(stand, touches, lambda one, place: move_stand(habits, one, place), MOST_STANDS)
    if len(found) > MOST_STANDS:
        raise TooMany(MOST_STANDS)
    return list(found)


def places_of_name(stand, name):
    return tuple([layout[name] for layout in stand])


def is_together(places):
    return all([place == places[0] for place in places])


def meeting_word(habits, stand, name):
    """The least of the shortest words that bring a name to one place: only its own places matter for that."""
    return least_word(
        places_of_name(stand, name),
        places_of_habit(habits[0]),
        lambda places, touch: tuple([habit[touch][place] for habit, place in zip(habits, places)]),
        is_together,
    )


def names_that_meet(habits, stand):
    names = places_of_habit(habits[0])
    return tuple([name for name in names if meeting_word(habits, stand, name) is not None])


def is_met_throughout(habits, stand, program):
    """Whether each name that a program uses can be brought to one place."""
    meets = names_that_meet(habits, stand)
    return all([name in meets for name in names_used(program)])


def row_step(habits, names, state, place):
    """The stand behind a touch, and how many names of a row are accessed then."""
    stand, done = state
    if done < len(names) and all([layout[names[done]] == place for layout in stand]):
        done += 1
    return (move_stand(habits, stand, place), done)


def shortest_access(habits, stand, names):
    """A shortest word that accesses a row of names, None without one."""
    found = least_word(
        (stand, 0),
        places_of_habit(habits[0]),
        lambda state, place: row_step(habits, names, state, place),
        lambda state: state[1] == len(names),
    )
    # A tuple of more places is no word.
    return None if found is None or len(found) > MOST_TOUCHES else found


def ready_stand(habits, stand, instruction):
    """The nearest stand with which an instruction can be done, and the word to it."""
    if not is_access(instruction):
        return stand, ()
    word = meeting_word(habits, stand, instruction[1])
    for place in word:
        stand = move_stand(habits, stand, place)
    return stand, word


def stand_behind(habits, stand, instruction):
    """The stand behind an instruction whose name stands at one place if it is an access."""
    if is_access(instruction):
        return move_stand(habits, stand, stand[0][instruction[1]])
    return stand


def word_to_stand(habits, one, other):
    return least_word(
        one,
        places_of_habit(habits[0]),
        lambda stand, place: move_stand(habits, stand, place),
        lambda stand: stand == other,
    )
