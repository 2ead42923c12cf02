"""Shortest words on shelves of known kinds, of up to forty places (points 65 and 66)."""

from restlesshelf.checks import check_layout, check_row
from restlesshelf.standing import inverse, pairs_crossed

MOST_KNOWN_PLACES = 40


def kept_end(one, other):
    """The names of the longest end of one layout that stands in the same order in the other, from the front on."""
    check_two_layouts(one, other)
    return end_in_order(one, inverse(other))


def front_word(one, other):
    """A shortest word that leads one layout to another on a shelf to the front."""
    check_two_layouts(one, other)
    books = inverse(other)
    moved = len(books) - len(end_in_order(one, books))
    stood = list(inverse(one))
    word = []
    # Each goes to the front, so the one that is to stand foremost goes last.
    for name in books[:moved][::-1]:
        place = stood.index(name)
        word.append(place)
        stood.insert(0, stood.pop(place))
    return tuple(word)


def front_distance(one, other):
    """How many touches lead one layout to another on a shelf to the front."""
    kept = kept_end(one, other)
    return len(one) - len(kept)


def neighbour_word(one, other):
    """A shortest word that leads one layout to another by the neighbours' habit."""
    check_two_layouts(one, other)
    stood = list(inverse(one))
    word = []
    for goal, name in enumerate(inverse(other)):
        # Those before the goal stand as they should, so the book is at the goal or behind it.
        place = stood.index(name)
        word.extend(list(range(place, goal, -1)))
        stood.insert(goal, stood.pop(place))
    return tuple(word)


def neighbour_distance(one, other):
    """How many touches lead one layout to another by the neighbours' habit."""
    check_two_layouts(one, other)
    return pairs_crossed(one, other)


def turning_word(one, other):
    """A shortest word that leads one layout to another by the turning habit, None without one."""
    check_two_layouts(one, other)
    if one == other:
        return ()
    places = len(one)
    turn = (other[0] - one[0]) % places
    # Several turns do together what a single one does.
    return (turn,) if tuple([(stood + turn) % places for stood in one]) == other else None


def check_two_layouts(one, other):
    check_row(one, MOST_KNOWN_PLACES)
    check_layout(other, len(one))


def end_in_order(layout, books):
    """The longest end of a row of books that stands in the same order in a layout."""
    at = len(books) - 1
    while at > 0 and layout[books[at - 1]] < layout[books[at]]:
        at -= 1
    return books[at:]
