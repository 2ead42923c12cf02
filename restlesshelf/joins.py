"""Shelves put together, called otherwise, undone and doubled (point 70)."""

from restlesshelf.checks import MOST_PLACES, check_habit, check_layout
from restlesshelf.errors import TooMany
from restlesshelf.moves import places_of_habit
from restlesshelf.standing import inverse


def beside(one, other):
    """The habit of two shelves side by side, each of whose touches moves its own shelf's books."""
    check_habit(one)
    check_habit(other)
    check_together(len(one) + len(other))
    first = places_of_habit(one)
    second = tuple([len(one) + place for place in places_of_habit(other)])
    rows = [moves + second for moves in one]
    return tuple(rows + [first + tuple([len(one) + goal for goal in moves]) for moves in other])


def within(outer, inner):
    """The habit of a shelf each of whose places holds a shelf."""
    check_habit(outer)
    check_habit(inner)
    check_together(len(outer) * len(inner))
    return tuple([house_moves(houses, house, moves) for house, houses in enumerate(outer) for moves in inner])


def called(habit, order):
    """The habit of the same shelf with each place called otherwise."""
    check_habit(habit)
    check_layout(order, len(habit))
    back = inverse(order)
    return tuple([tuple([order[habit[place][stood]] for stood in back]) for place in back])


def backed(habit):
    """The habit whose touches undo those of a habit."""
    check_habit(habit)
    return tuple([inverse(moves) for moves in habit])


def doubled(habit):
    """The habit whose touch of a place moves as two touches of this place would."""
    check_habit(habit)
    return tuple([tuple([moves[goal] for goal in moves]) for moves in habit])


def check_together(places):
    """Checks how many places shelves have together."""
    if places > MOST_PLACES:
        raise TooMany(MOST_PLACES)


def house_moves(houses, house, moves):
    """The permutation of a touch in a house: the books within it move, and then the houses."""
    many = len(moves)
    rows = []
    for at in range(len(houses)):
        inside = moves if at == house else tuple(range(many))
        rows.extend([houses[at] * many + goal for goal in inside])
    return tuple(rows)
