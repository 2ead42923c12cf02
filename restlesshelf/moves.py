"""How touches move layouts, and what words lead to, for values that are checked already.

A search takes the step from a state by a touch as a function, since a state may be a layout,
several of them, or a layout and something beside it.
"""

# No shelf of five places has more layouts.
MOST_LAYOUTS = 120


def places_of_habit(habit):
    return tuple(range(len(habit)))


def move(habit, layout, place):
    """The layout behind a touch of a place."""
    moves = habit[place]
    return tuple([moves[stood] for stood in layout])


def move_along(habit, layout, word):
    """The layout behind a word."""
    for place in word:
        layout = move(habit, layout, place)
    return layout


def depths(start, touches, step, most):
    """For each state that touches lead to, how few do; the search may end early beyond so many states."""
    found = {start: 0}
    level = [start]
    while level and len(found) <= most:
        further = []
        for state in level:
            for place in touches:
                new = step(state, place)
                if new not in found:
                    found[new] = found[state] + 1
                    further.append(new)
        level = further
    return found


def traced(came, state):
    """The word by which a search came to a state."""
    word = []
    while came[state] is not None:
        state, place = came[state]
        word.append(place)
    word.reverse()
    return tuple(word)


def least_word(start, touches, step, is_goal):
    """The least of the shortest words that lead to a goal, None without one.

    States are found in the order of their least shortest words, if the touches ascend: so the first goal is it.
    """
    if is_goal(start):
        return ()
    came = {start: None}
    level = [start]
    while level:
        further = []
        for state in level:
            for place in touches:
                new = step(state, place)
                if new not in came:
                    came[new] = (state, place)
                    if is_goal(new):
                        return traced(came, new)
                    further.append(new)
        level = further
    return None


def move_stand(habits, stand, place):
    """The stand behind a touch of a place, on a shelf of each habit."""
    return tuple([move(habit, layout, place) for habit, layout in zip(habits, stand)])


def layout_depths(habit, layout):
    """For each layout that can come, its distance."""
    return depths(layout, places_of_habit(habit), lambda one, place: move(habit, one, place), MOST_LAYOUTS)


def word_to_layout(habit, one, other):
    """The least of the shortest words from one layout to another, None without one."""
    return least_word(
        one,
        places_of_habit(habit),
        lambda layout, place: move(habit, layout, place),
        lambda layout: layout == other,
    )
