"""Slips and looks: point 14, and what point 1 says of their arguments."""

import itertools
import random
import unittest

from restlesshelf.errors import BadNumber
from restlesshelf.looks import book_at, books_of, hidden_losses, loss_shown
from restlesshelf.shelves import after, front_habit, neighbour_habit, touched, turning_habit
from tests import helpers

SWAP = ((1, 0), (0, 1))


def slow_books(habit, layout, word):
    return tuple(after(habit, layout, word[:at]).index(place) for at, place in enumerate(word))


def slow_loss(habit, layout, word, spot):
    """Where a loss shows, by the books of the word with and without the touch."""
    should = slow_books(habit, layout, word)
    does = slow_books(habit, layout, word[:spot] + word[spot + 1:])
    for at in range(spot + 1, len(word)):
        if should[at] != does[at - 1]:
            return at
    return None


def slow_hidden(habit, layout, word):
    hidden = []
    for spot in range(len(word)):
        ends_right = after(habit, layout, word) == after(habit, layout, word[:spot] + word[spot + 1:])
        if ends_right and slow_loss(habit, layout, word, spot) is None:
            hidden.append(spot)
    return tuple(hidden)


def sleepy_habit(source, places):
    """A habit of which some touches move nothing, and others little."""
    kinds = (tuple(range(places)), helpers.random_layout(source, places), neighbour_habit(places)[1])
    return tuple(source.choice(kinds) for _ in range(places))


class ExampleTests(unittest.TestCase):
    def test_examples(self):
        self.assertEqual(book_at(SWAP, (0, 1), (0,), 0), 1)
        self.assertEqual(books_of(SWAP, (0, 1), (0, 0, 1)), (0, 1, 1))
        self.assertEqual(loss_shown(SWAP, (0, 1), (0, 0, 1), 0), 1)
        self.assertEqual(hidden_losses(SWAP, (0, 1), (1, 0, 1)), (0, 2))
        with self.assertRaises(BadNumber):
            loss_shown(SWAP, (0, 1), (0,), 1)


class LookTests(unittest.TestCase):
    def test_all_short_words(self):
        for habit in itertools.product(itertools.permutations(range(2)), repeat=2):
            for layout in ((0, 1), (1, 0)):
                for count in range(6):
                    for word in itertools.product((0, 1), repeat=count):
                        self.assert_is_seen(habit, layout, word)

    def test_random_words(self):
        source = random.Random(41)
        for _ in range(300):
            places = source.randint(2, 5)
            habit = source.choice((helpers.random_habit, sleepy_habit))(source, places)
            word = tuple(source.randrange(places) for _ in range(source.randint(0, 15)))
            self.assert_is_seen(habit, helpers.random_layout(source, places), word)

    def assert_is_seen(self, habit, layout, word):
        end = after(habit, layout, word)
        for place in range(len(habit)):
            self.assertEqual(end[book_at(habit, layout, word, place)], place)
        self.assertEqual(books_of(habit, layout, word), slow_books(habit, layout, word))
        for spot in range(len(word)):
            self.assertEqual(loss_shown(habit, layout, word, spot), slow_loss(habit, layout, word, spot))
        self.assertEqual(hidden_losses(habit, layout, word), slow_hidden(habit, layout, word))

    def test_the_void_word(self):
        front = front_habit(3)
        self.assertEqual(book_at(front, (2, 0, 1), (), 2), 0)
        self.assertEqual(books_of(front, (2, 0, 1), ()), ())
        self.assertEqual(hidden_losses(front, (2, 0, 1), ()), ())
        for spot in (0, -1, 1):
            helpers.assert_raises(self, "BadNumber", (), loss_shown, front, (2, 0, 1), (), spot)

    def test_the_last_touch_is_lost(self):
        # Its loss never shows, but all stands otherwise than it should at the end.
        self.assertIsNone(loss_shown(SWAP, (0, 1), (1, 0), 1))
        self.assertEqual(hidden_losses(SWAP, (0, 1), (1, 0)), (0,))

    def test_a_loss_that_never_shows_but_is_not_hidden(self):
        habit = ((0, 2, 1), (0, 1, 2), (0, 1, 2))
        self.assertIsNone(loss_shown(habit, (0, 1, 2), (0, 0, 0), 0))
        self.assertEqual(hidden_losses(habit, (0, 1, 2), (0, 1, 0)), (1,))

    def test_words_of_400(self):
        turning = turning_habit(5)
        layout, word = (4, 2, 0, 1, 3), tuple(at * at % 5 for at in range(400))
        books = books_of(turning, layout, word)
        self.assertEqual(len(books), 400)
        self.assertEqual(books[:5], slow_books(turning, layout, word[:5]))
        self.assertEqual(book_at(turning, layout, word, word[0]), after(turning, layout, word).index(word[0]))
        self.assertEqual(hidden_losses(turning, layout, word), tuple(range(0, 400, 5)))
        self.assertEqual(loss_shown(turning, layout, word, 398), 399)
        self.assertIsNone(loss_shown(turning, layout, word, 399))
        self.assertIsNone(loss_shown(turning, layout, word, 0))
        # Places 1 and 2 are never touched, and change places by the first touch.
        habit = ((0, 2, 1),) + (touched(front_habit(3), (0, 1, 2), 0),) * 2
        self.assertIsNone(loss_shown(habit, (0, 1, 2), (0,) * 400, 0))

    def test_wrong_arguments(self):
        rows = [helpers.bad_habits(), helpers.bad_layouts(), helpers.bad_words()]
        good = (SWAP, (0, 1), (0, 1, 0))
        helpers.assert_names_wrong_arguments(self, books_of, good, rows)
        helpers.assert_names_wrong_arguments(self, hidden_losses, good, rows)
        helpers.assert_names_wrong_arguments(self, book_at, good + (1,), rows + [helpers.bad_places()])
        helpers.assert_names_wrong_arguments(self, loss_shown, good + (1,), rows + [helpers.bad_numbers(0, 2)])

    def test_arguments_of_other_shelves(self):
        three = front_habit(3)
        helpers.assert_raises(self, "BadLayout", (), book_at, three, (0, 1), (3,), 3)
        helpers.assert_raises(self, "BadWord", (), book_at, three, (0, 1, 2), (3,), 3)
        helpers.assert_raises(self, "BadPlace", (), book_at, three, (0, 1, 2), (2,), 3)


if __name__ == "__main__":
    unittest.main()
