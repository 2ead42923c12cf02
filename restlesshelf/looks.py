"""Slips and looks: what words touch, and what is seen if a touch is lost (point 14)."""

from restlesshelf.checks import check_habit, check_layout, check_number, check_place, check_word
from restlesshelf.moves import move, move_along, places_of_habit


def book_at(habit, layout, word, place):
    """The name of the book that stands at a place behind a word."""
    check_word_on_shelf(habit, layout, word)
    check_place(place, len(habit))
    return move_along(habit, layout, word).index(place)


def books_of(habit, layout, word):
    """The names that the touches of a word touch, in order."""
    check_word_on_shelf(habit, layout, word)
    books = []
    for place in word:
        books.append(layout.index(place))
        layout = move(habit, layout, place)
    return tuple(books)


def loss_shown(habit, layout, word, spot):
    """The index of the first touch behind a lost one that touches another book than it should, None without one."""
    check_word_on_shelf(habit, layout, word)
    check_number(spot, 0, len(word) - 1)
    stands = move_along(habit, layout, word[:spot])
    should_stand = move(habit, stands, word[spot])
    for at in range(spot + 1, len(word)):
        place = word[at]
        if stands.index(place) != should_stand.index(place):
            return at
        stands = move(habit, stands, place)
        should_stand = move(habit, should_stand, place)
    return None


def hidden_losses(habit, layout, word):
    """The indexes of the touches whose loss never shows, and behind which all stands as it should, ascending."""
    check_word_on_shelf(habit, layout, word)
    # No touch brings unlike layouts to one: so all stands as it should at the end only if the lost touch moves nothing.
    nothing_moves = places_of_habit(habit)
    return tuple([spot for spot, place in enumerate(word) if habit[place] == nothing_moves])


def check_word_on_shelf(habit, layout, word):
    check_habit(habit)
    check_layout(layout, len(habit))
    check_word(word, len(habit))
