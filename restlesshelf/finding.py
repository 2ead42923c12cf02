"""A start that nobody knows: where a name may stand, and trees of looks that tell it (points 74 and 75)."""

from restlesshelf.checks import (
    check_habit,
    check_layouts,
    check_name,
    check_word,
    is_integer,
    is_layout,
    is_place,
    is_row,
)
from restlesshelf.moves import move, move_along, places_of_habit

MOST_LOOKS = 20


def may_stand(habit, layouts, name, word):
    """The places at which a name may stand behind a word, ascending."""
    check_habit(habit)
    check_layouts(layouts, len(habit))
    check_name(name, len(habit))
    check_word(word, len(habit))
    return tuple(sorted({move_along(habit, layout, word)[name] for layout in layouts}))


def least_looks(habit, layouts, name):
    """The fewest looks that surely tell where a name stands, or for None the layout, and a tree of them."""
    check_sought(habit, layouts, name)
    return least_looks_for(habit, layouts, name)


def tells(habit, layouts, name, value):
    """Whether a value is a tree of looks, short or not, that tells what is sought."""
    check_sought(habit, layouts, name)
    return is_telling(habit, layouts, name, value, MOST_LOOKS)


def check_sought(habit, layouts, name):
    check_habit(habit)
    check_layouts(layouts, len(habit))
    if name is not None:
        check_name(name, len(habit))


def sought_in(layout, name):
    """What is sought if a layout is the one."""
    return layout if name is None else layout[name]


def is_known(layouts, name):
    """Whether what is sought is the same for all layouts."""
    return all([sought_in(layout, name) == sought_in(layouts[0], name) for layout in layouts])


def parts_shown(habit, layouts, place):
    """For each book that a look may show, rising, the pair of it and the layouts that are left behind the look."""
    parts = []
    for book in places_of_habit(habit):
        left = tuple([move(habit, layout, place) for layout in layouts if layout[book] == place])
        if left:
            parts.append((book, left))
    return parts


def least_looks_for(habit, layouts, name):
    """The depth and the tree for the layouts that are left."""
    if is_known(layouts, name):
        return (0, sought_in(layouts[0], name))
    best = None
    for place in places_of_habit(habit):
        parts = parts_shown(habit, layouts, place)
        # A look that shows one book alone tells nothing: it only moves all layouts alike.
        if len(parts) > 1:
            told = [(book, least_looks_for(habit, left, name)) for book, left in parts]
            depth = 1 + max([least[0] for _, least in told])
            if best is None or depth < best[0]:
                best = (depth, (place, tuple([(book, least[1]) for book, least in told])))
    return best


def is_telling(habit, layouts, name, value, looks_left):
    """Whether a value is a tree of at most so many looks that tells what is sought, for the layouts that are left."""
    if is_answer(value, name, len(habit)):
        return is_known(layouts, name) and value == sought_in(layouts[0], name)
    if looks_left == 0 or not is_row(value, 2, 2) or not is_place(value[0], len(habit)):
        return False
    parts = parts_shown(habit, layouts, value[0])
    if not is_row(value[1], len(parts), len(parts)):
        return False
    for told, (book, left) in zip(value[1], parts):
        if not is_row(told, 2, 2) or not is_integer(told[0]) or told[0] != book:
            return False
        if not is_telling(habit, left, name, told[1], looks_left - 1):
            return False
    return True


def is_answer(value, name, places):
    """Whether a value is a layout or a place, as the one or the other is sought."""
    return is_layout(value, places) if name is None else is_place(value, places)
