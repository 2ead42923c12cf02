"""What words make: permutations of places, and why some are never made (points 67, 68 and 69)."""

from restlesshelf.checks import are_places, check_habit, check_layout, check_place, check_word, is_place, is_row
from restlesshelf.moves import layout_depths, least_word, move, move_along, places_of_habit, word_to_layout
from restlesshelf.standing import pairs_crossed


def made_by(habit, word):
    """The permutation that a word makes."""
    check_habit(habit)
    check_word(word, len(habit))
    return move_along(habit, places_of_habit(habit), word)


def word_for(habit, permutation):
    """The least of the shortest words that make a permutation, None without one."""
    check_habit(habit)
    check_layout(permutation, len(habit))
    return word_to_layout(habit, places_of_habit(habit), permutation)


def comes_round(habit, word):
    """How often a word must be done, at least once, until all stands as at first."""
    moves = made_by(habit, word)
    stood = moves
    rounds = 1
    while stood != places_of_habit(habit):
        stood = tuple([moves[place] for place in stood])
        rounds += 1
    return rounds


def alone(habit, place):
    """How many permutations that words make leave what stands at a place there."""
    check_habit(habit)
    check_place(place, len(habit))
    return len([moves for moves in all_made(habit) if moves[place] == place])


def stirring(habit):
    """The least of the shortest words behind which nothing stands where it stood, None without one."""
    check_habit(habit)
    places = places_of_habit(habit)
    return least_word(
        places,
        places,
        lambda moves, touch: move(habit, moves, touch),
        lambda moves: all([moves[place] != place for place in places]),
    )


def all_agree(habit):
    """Whether any two touches do the same in both orders."""
    check_habit(habit)
    places = places_of_habit(habit)
    pairs = [(one, other) for one in places for other in places]
    return all([move_along(habit, places, pair) == move_along(habit, places, pair[::-1]) for pair in pairs])


def orbits(habit):
    """The places between which books can come, together, by their first places."""
    check_habit(habit)
    return orbits_of(habit)


def are_even(habit):
    """Whether the permutation of every touch has an even number of pairs that it puts in unlike order."""
    check_habit(habit)
    return all([is_even(moves) for moves in habit])


def blocks(habit):
    """The partings of several parts, fewer than there are places, that every touch keeps, ascending."""
    check_habit(habit)
    return blocks_of(habit)


def never(habit, permutation):
    """The first reason why no word makes a permutation, None if one does."""
    check_habit(habit)
    check_layout(permutation, len(habit))
    reasons = reasons_against(habit, permutation)
    return reasons[0] if reasons else None


def shows_never(habit, permutation, value):
    """Whether a value is a reason why no word makes a permutation, the first or not."""
    check_habit(habit)
    check_layout(permutation, len(habit))
    return is_reason_in_form(value, len(habit)) and value in reasons_against(habit, permutation)


def all_made(habit):
    """All permutations that words make."""
    return list(layout_depths(habit, places_of_habit(habit)))


def orbits_of(habit):
    found = []
    for place in places_of_habit(habit):
        if not any([place in orbit for orbit in found]):
            # Words can be undone by words: so all to which one comes come to one another, too.
            found.append(tuple(sorted({moves[place] for moves in all_made(habit)})))
    return tuple(found)


def is_even(moves):
    return pairs_crossed(tuple(range(len(moves))), moves) % 2 == 0


def partings_of(places):
    """All ways to part so many places, each a tuple, by their first places, of ascending tuples."""
    rows = [()]
    for place in range(places):
        rows = [further for parting in rows for further in partings_with(parting, place)]
    return rows


def partings_with(parting, place):
    """A parting with a further place in each of its parts, and in one of its own."""
    rows = [parting[:at] + (part + (place,),) + parting[at + 1:] for at, part in enumerate(parting)]
    return rows + [parting + ((place,),)]


def is_kept(parting, moves):
    """Whether a permutation moves each part to a part."""
    return all([tuple(sorted([moves[place] for place in part])) in parting for part in parting])


def blocks_of(habit):
    places = len(habit)
    partings = [parting for parting in partings_of(places) if 1 < len(parting) < places]
    return tuple(sorted([parting for parting in partings if all([is_kept(parting, moves) for moves in habit])]))


def reasons_against(habit, permutation):
    """All reasons why no word makes a permutation, those first that are told first; none if one makes it."""
    if word_to_layout(habit, places_of_habit(habit), permutation) is not None:
        return []
    reasons = [("orbit", place) for orbit in orbits_of(habit) for place in orbit if permutation[place] not in orbit]
    if not is_even(permutation) and all([is_even(moves) for moves in habit]):
        reasons.append(("even",))
    reasons.extend([("blocks", parting) for parting in blocks_of(habit) if not is_kept(parting, permutation)])
    return reasons + [("closed",)]


def is_reason_in_form(value, places):
    """Whether a value is like a reason, with integers for places."""
    # True and False would otherwise be taken for the places 1 and 0.
    if not is_row(value, 1, 2) or not isinstance(value[0], str):
        return False
    if len(value) == 1:
        return True
    if value[0] == "orbit":
        return is_place(value[1], places)
    return isinstance(value[1], tuple) and all([are_places(part, places) for part in value[1]])
