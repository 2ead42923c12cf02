"""Telling shelves apart by marks that are written and read (points 12 and 13)."""

from restlesshelf.checks import (
    are_places,
    check_habits,
    check_lot,
    is_place,
    is_rising,
    is_row,
)
from restlesshelf.errors import BadAnswer, BadPlace
from restlesshelf.moves import depths, least_word

# No more pairs of places are there on two shelves of five.
MOST_PAIRS = 25


def test(habit, other, lot):
    """A test with as short a word as can be that tells two habits apart, None without one."""
    check_two(habit, other, lot)
    return shortest_test(habit, other, lot)


def shows_test(habit, other, lot, value):
    """Whether a value is what test may return."""
    check_two(habit, other, lot)
    shortest = shortest_test(habit, other, lot)
    if shortest is None or value is None:
        return shortest is None and value is None
    if not is_row(value, 3, 3) or not is_test(value[0], value[1], value[2], lot, len(habit)):
        return False
    place, word, read = value
    if len(word) != len(shortest[1]):
        return False
    return reads_mark(habit, place, word, read) != reads_mark(other, place, word, read)


def alike_paper(habit, other, lot):
    """All pairs of places to which a mark can come on the two shelves, ascending, None if some test tells."""
    check_two(habit, other, lot)
    step = pair_step(habit, other)
    pairs = [pair for first in first_pairs(habit, other, lot) for pair in depths(first, lot, step, MOST_PAIRS)]
    if any([telling_read(pair, lot) is not None for pair in pairs]):
        return None
    return tuple(sorted(set(pairs)))


def shows_alike(habit, other, lot, value):
    """Whether a value is a paper that shows two habits to be alike for the lot."""
    check_two(habit, other, lot)
    places = len(habit)
    if not is_row(value, 0, MOST_PAIRS) or not all([is_row(pair, 2, 2) and are_places(pair, places) for pair in value]):
        return False
    step = pair_step(habit, other)
    needed = first_pairs(habit, other, lot) + [step(pair, place) for pair in value for place in lot]
    has_all = all([pair in value for pair in needed])
    return is_rising(value) and has_all and all([telling_read(pair, lot) is None for pair in value])


def habits_left(habits, lot, place, word, read, is_marked):
    """The indexes of the habits on whose shelves a test reads the mark, or doesn't, ascending."""
    check_habits(habits)
    check_lot(lot, len(habits[0]))
    if not is_test(place, word, read, lot, len(habits[0])):
        raise BadPlace("a place of the test is none of the lot")
    if not isinstance(is_marked, bool):
        raise BadAnswer("neither True nor False")
    return tuple([index for index, habit in enumerate(habits) if reads_mark(habit, place, word, read) == is_marked])


def check_two(habit, other, lot):
    check_habits((habit, other))
    check_lot(lot, len(habit))


def is_of_lot(value, lot, places):
    return is_place(value, places) and value in lot


def is_test(place, word, read, lot, places):
    """Whether a place, a word and a place to read are all of a lot."""
    if not is_of_lot(place, lot, places) or not is_of_lot(read, lot, places):
        return False
    return are_places(word, places) and all([touch in lot for touch in word])


def reads_mark(habit, place, word, read):
    """Whether a test reads the mark on a shelf of a habit."""
    stood = habit[place][place]
    for touch in word:
        stood = habit[touch][stood]
    return stood == read


def first_pairs(habit, other, lot):
    """The pairs of places to which the marks of a lot come by their own touch."""
    return [(habit[place][place], other[place][place]) for place in lot]


def pair_step(habit, other):
    """The function that tells where a touch moves two marks."""
    return lambda pair, touch: (habit[touch][pair[0]], other[touch][pair[1]])


def telling_read(pair, lot):
    """The first place of a lot at which just one of two marks stands, None without one."""
    one, other = pair
    for read in lot:
        if (read == one) != (read == other):
            return read
    return None


def shortest_test(habit, other, lot):
    """A test with as short a word as can be that tells two habits apart, None without one."""
    best = None
    step = pair_step(habit, other)
    for place, first in zip(lot, first_pairs(habit, other, lot)):
        word = least_word(first, lot, step, lambda pair: telling_read(pair, lot) is not None)
        if word is not None and (best is None or len(word) < len(best[1])):
            marks = first
            for touch in word:
                marks = step(marks, touch)
            best = (place, word, telling_read(marks, lot))
    return best
