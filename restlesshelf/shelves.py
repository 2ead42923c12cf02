"""Shelves: what touches do to layouts, and habits of known kinds (points 2, 3 and 4)."""

from restlesshelf.checks import check_habit, check_layout, check_place, check_places, check_word
from restlesshelf.moves import layout_depths, move, move_along, places_of_habit, word_to_layout


def touched(habit, layout, place):
    """The layout behind a touch of a place."""
    check_habit(habit)
    check_layout(layout, len(habit))
    check_place(place, len(habit))
    return move(habit, layout, place)


def after(habit, layout, word):
    """The layout behind a word."""
    check_habit(habit)
    check_layout(layout, len(habit))
    check_word(word, len(habit))
    return move_along(habit, layout, word)


def can_come(habit, layout):
    """The layouts that words lead to, ascending."""
    check_habit(habit)
    check_layout(layout, len(habit))
    return tuple(sorted(layout_depths(habit, layout)))


def word_between(habit, one, other):
    """The least of the shortest words that lead one layout to another, None without one."""
    check_habit(habit)
    check_layout(one, len(habit))
    check_layout(other, len(habit))
    return word_to_layout(habit, one, other)


def distance(habit, one, other):
    """How many touches lead one layout to another, None without a word that does."""
    word = word_between(habit, one, other)
    return None if word is None else len(word)


def farthest(habit, layout):
    """The greatest distance from a layout to one that can come."""
    check_habit(habit)
    check_layout(layout, len(habit))
    return max(list(layout_depths(habit, layout).values()))


def order(habit):
    """How many unlike permutations words make."""
    check_habit(habit)
    # A word makes of this layout just its own permutation.
    return len(layout_depths(habit, places_of_habit(habit)))


def front_habit(places):
    """The habit by which the touched book goes to the front."""
    check_places(places)
    return tuple([front_permutation(places, place) for place in range(places)])


def front_permutation(places, place):
    books_before = tuple(range(1, place + 1))
    books_behind = tuple(range(place + 1, places))
    return books_before + (0,) + books_behind


def neighbour_habit(places):
    """The habit by which the touched book changes places with the one before it."""
    check_places(places)
    return tuple([neighbour_permutation(places, place) for place in range(places)])


def neighbour_permutation(places, place):
    moves = list(range(places))
    if place > 0:
        moves[place - 1], moves[place] = place, place - 1
    return tuple(moves)


def turning_habit(places):
    """The habit by which a touch of place k moves all books k places on, round and round."""
    check_places(places)
    return tuple([tuple([(stood + place) % places for stood in range(places)]) for place in range(places)])
