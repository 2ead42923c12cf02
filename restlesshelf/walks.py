"""Books looked for from the front on: what is walked to them (points 63 and 64)."""

from restlesshelf.checks import check_habit, check_layout, check_names, check_row, is_number
from restlesshelf.errors import BadLayout
from restlesshelf.moves import move
from restlesshelf.standing import inverse, pairs_crossed

MOST_BOOKS = 30
MOST_ASKED = 200


def walked(habit, layout, names):
    """What is walked if names are touched one behind another, on a shelf that moves by its habit."""
    check_habit(habit)
    check_layout(layout, len(habit))
    check_names(names, len(habit), MOST_ASKED)
    steps = 0
    for name in names:
        place = layout[name]
        steps += place + 1
        layout = move(habit, layout, place)
    return steps


def front_walk(order, names):
    """What is walked on a shelf to the front that begins in an order."""
    check_row(order, MOST_BOOKS)
    check_names(names, len(order), MOST_ASKED)
    stood = list(order)
    steps = 0
    for name in names:
        place = stood.index(name)
        steps += place + 1
        stood.insert(0, stood.pop(place))
    return steps


def still_walk(order, names):
    """What is walked on a shelf that never moves."""
    check_row(order, MOST_BOOKS)
    check_names(names, len(order), MOST_ASKED)
    return sum([order.index(name) + 1 for name in names])


def best_still(many, names):
    """The still order of so many books by how often they are asked, and what is walked in it."""
    if not is_number(many, 1, MOST_BOOKS):
        raise BadLayout(f"no number of books from 1 to {MOST_BOOKS}")
    check_names(names, many, MOST_ASKED)
    order = tuple(sorted(range(many), key=lambda name: (-names.count(name), name)))
    return (order, still_walk(order, names))


def crossed(one, other):
    """How many pairs of books stand in unlike order in two orders."""
    check_two_orders(one, other)
    return pairs_crossed(inverse(one), inverse(other))


def front_bound(order, other, names):
    """What front_walk is never more than, told by any other order."""
    check_two_orders(order, other)
    check_names(names, len(order), MOST_ASKED)
    return 2 * still_walk(other, names) + crossed(order, other) - len(names)


def check_two_orders(one, other):
    check_row(one, MOST_BOOKS)
    check_layout(other, len(one))
