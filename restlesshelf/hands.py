"""Two hands at one shelf, neither of which knows how far the other one is (points 76, 77 and 78)."""

from restlesshelf.checks import check_habit, check_layout, check_names, is_number, is_place, is_row
from restlesshelf.errors import BadDeeds, BadWeave
from restlesshelf.moves import least_word, move, places_of_habit

MOST_DEEDS = 8
HANDS = (0, 1)


def goes(habit, layout, one, other, weave):
    """The books that the deeds of two hands touch, in the order of a weave."""
    check_hands(habit, layout, one, other)
    check_weave(one, other, weave)
    left = [list(one), list(other)]
    books = []
    for hand in weave:
        place, _ = left[hand].pop(0)
        books.append(layout.index(place))
        layout = move(habit, layout, place)
    return tuple(books)


def straight(habit, layout, names):
    """The deeds of a hand alone that accesses names one behind another."""
    check_habit(habit)
    check_layout(layout, len(habit))
    check_names(names, len(habit), MOST_DEEDS)
    return straight_deeds(habit, layout, names)


def first_clash(habit, layout, one, other):
    """The least of the shortest beginnings of weaves whose last deed touches another book than it should."""
    check_hands(habit, layout, one, other)
    return least_clash(habit, layout, one, other)


def weaves_right(habit, layout, one, other):
    """How many weaves have only deeds that touch the right books, and the least such weave or None."""
    check_hands(habit, layout, one, other)
    # For each way in which both hands may stand, how many weaves led there, and the least of them.
    found = {(0, 0, layout): (1, ())}
    for _ in range(len(one) + len(other)):
        further = {}
        for state, (many, least) in found.items():
            for hand in HANDS:
                new = state_behind(habit, one, other, state, hand)
                if new is not None and touches_right(one, other, state, hand):
                    weave = least + (hand,)
                    count, best = further.get(new, (0, weave))
                    further[new] = (count + many, min(best, weave))
        found = further
    ends = list(found.values())
    return (sum([many for many, _ in ends]), min([least for _, least in ends], default=None))


def ends_of(habit, layout, one, other):
    """The layouts behind all weaves, ascending."""
    check_hands(habit, layout, one, other)
    found = [(0, 0, layout)]
    for _ in range(len(one) + len(other)):
        further = [state_behind(habit, one, other, state, hand) for state in found for hand in HANDS]
        found = sorted({state for state in further if state is not None})
    return tuple(sorted({stood for _, _, stood in found}))


def hinders(habit, layout, names, others):
    """The first clash of two hands that access names straight."""
    check_habit(habit)
    check_layout(layout, len(habit))
    check_names(names, len(habit), MOST_DEEDS)
    check_names(others, len(habit), MOST_DEEDS)
    return clash_of_names(habit, layout, names, others)


def free_pairs(habit, layout):
    """The pairs of names, one for each hand, that two hands access without a clash, ascending."""
    check_habit(habit)
    check_layout(layout, len(habit))
    names = places_of_habit(habit)
    pairs = [(name, other) for name in names for other in names]
    return tuple([pair for pair in pairs if clash_of_names(habit, layout, pair[:1], pair[1:]) is None])


def check_hands(habit, layout, one, other):
    check_habit(habit)
    check_layout(layout, len(habit))
    check_deeds(one, len(habit))
    check_deeds(other, len(habit))


def check_deeds(deeds, places):
    if not is_row(deeds, 0, MOST_DEEDS) or not all([is_deed(deed, places) for deed in deeds]):
        raise BadDeeds("no tuple of so many deeds")


def is_deed(value, places):
    return is_row(value, 2, 2) and is_place(value[0], places) and (value[1] is None or is_place(value[1], places))


def check_weave(one, other, weave):
    """Checks a weave for deeds that are checked already."""
    if not is_row(weave, 0, 2 * MOST_DEEDS) or not all([is_number(hand, 0, 1) for hand in weave]):
        raise BadWeave("no tuple of hands")
    if weave.count(0) != len(one) or weave.count(1) != len(other):
        raise BadWeave("not as many of each hand as it has deeds")


def straight_deeds(habit, layout, names):
    deeds = []
    for name in names:
        place = layout[name]
        deeds.append((place, name))
        layout = move(habit, layout, place)
    return tuple(deeds)


def clash_of_names(habit, layout, names, others):
    one = straight_deeds(habit, layout, names)
    return least_clash(habit, layout, one, straight_deeds(habit, layout, others))


def next_deed(one, other, state, hand):
    """The deed that is next for a hand, None if it has done all.

    A state has how many deeds each hand has done, and the layout.
    """
    deeds = one if hand == 0 else other
    return deeds[state[hand]] if state[hand] < len(deeds) else None


def state_behind(habit, one, other, state, hand):
    """The state behind the next deed of a hand, None without one."""
    deed = next_deed(one, other, state, hand)
    if deed is None:
        return None
    done, others_done, stood = state
    behind = move(habit, stood, deed[0])
    return (done + 1, others_done, behind) if hand == 0 else (done, others_done + 1, behind)


def touches_right(one, other, state, hand):
    """Whether the next deed of a hand touches the book that it should."""
    place, name = next_deed(one, other, state, hand)
    return name is None or state[2][name] == place


def least_clash(habit, layout, one, other):
    """The first clash of two hands, None without one."""
    return least_word(
        (0, 0, layout),
        HANDS,
        lambda state, hand: state_or_clash(habit, one, other, state, hand),
        lambda state: state is None,
    )


def state_or_clash(habit, one, other, state, hand):
    """The state behind the next deed of a hand, None for a clash; the same state if the hand has done all."""
    behind = state_behind(habit, one, other, state, hand)
    if behind is None:
        return state
    return behind if touches_right(one, other, state, hand) else None
