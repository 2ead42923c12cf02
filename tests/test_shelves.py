"""Shelves: points 2, 3 and 4, and what point 1 says of their arguments."""

import copy
import itertools
import random
import unittest

from restlesshelf.errors import BadHabit
from restlesshelf.shelves import (
    after,
    can_come,
    distance,
    farthest,
    front_habit,
    neighbour_habit,
    order,
    touched,
    turning_habit,
    word_between,
)
from tests import helpers

SWAP = ((1, 0), (0, 1))
STILL = ((0, 1), (0, 1))


def words_up_to(places, most):
    """All words of at most so many touches, the shortest first, those as short ascending."""
    return [word for count in range(most + 1) for word in itertools.product(range(places), repeat=count)]


def slow_after(habit, layout, word):
    """The layout behind a word, by books on places."""
    books = [layout.index(place) for place in range(len(layout))]
    for place in word:
        moved = [None] * len(books)
        for stood, book in enumerate(books):
            moved[habit[place][stood]] = book
        books = moved
    return tuple(books.index(book) for book in range(len(books)))


def kept_at_end(one, other):
    """How many books stand last in the other layout and in the same order in the first one."""
    books = [other.index(place) for place in range(len(other))]
    kept = 0
    for count in range(len(books) + 1):
        stands = [one[book] for book in books[len(books) - count:]]
        if stands == sorted(stands):
            kept = count
    return kept


class ExampleTests(unittest.TestCase):
    def test_examples(self):
        front = front_habit(3)
        self.assertEqual(front, ((0, 1, 2), (1, 0, 2), (1, 2, 0)))
        self.assertEqual(touched(front, (0, 1, 2), 2), (1, 2, 0))
        self.assertEqual(after(front, (0, 1, 2), (2, 2)), (2, 0, 1))
        self.assertEqual(distance(front, (0, 1, 2), (2, 1, 0)), 2)
        self.assertEqual(word_between(front, (0, 1, 2), (1, 0, 2)), (1,))
        self.assertEqual(order(front), 6)
        self.assertEqual(farthest(front, (0, 1, 2)), 2)
        self.assertEqual(can_come(turning_habit(2), (1, 0)), ((0, 1), (1, 0)))
        self.assertEqual(neighbour_habit(2), ((0, 1), (1, 0)))
        self.assertIsNone(word_between(STILL, (0, 1), (1, 0)))
        with self.assertRaises(BadHabit) as caught:
            order(((0, 1), (0, 0)))
        self.assertEqual(caught.exception.place, 1)


class TouchTests(unittest.TestCase):
    def test_each_touch_moves_by_its_own_permutation(self):
        habit = ((1, 2, 0), (0, 2, 1), (2, 1, 0))
        self.assertEqual([touched(habit, (2, 0, 1), place) for place in range(3)], [(0, 1, 2), (1, 0, 2), (0, 2, 1)])

    def test_words_against_books_on_places(self):
        source = random.Random(1)
        for places in (2, 3, 4, 5):
            for _ in range(20):
                habit = helpers.random_habit(source, places)
                layout = helpers.random_layout(source, places)
                word = tuple(source.randrange(places) for _ in range(source.randint(0, 30)))
                self.assertEqual(after(habit, layout, word), slow_after(habit, layout, word))

    def test_void_word(self):
        self.assertEqual(after(SWAP, (1, 0), ()), (1, 0))

    def test_word_of_400_places(self):
        self.assertEqual(after(SWAP, (1, 0), (0,) * 400), (1, 0))
        self.assertEqual(after(SWAP, (1, 0), (0,) * 399), (0, 1))

    def test_five_places(self):
        self.assertEqual(touched(front_habit(5), (4, 3, 2, 1, 0), 3), (4, 0, 3, 2, 1))

    def test_wrong_arguments(self):
        rows = [helpers.bad_habits(), helpers.bad_layouts()]
        helpers.assert_names_wrong_arguments(self, touched, (SWAP, (0, 1), 0), rows + [helpers.bad_places()])
        helpers.assert_names_wrong_arguments(self, after, (SWAP, (0, 1), (0,)), rows + [helpers.bad_words()])

    def test_layouts_of_other_shelves(self):
        helpers.assert_raises(self, "BadLayout", (), touched, front_habit(3), (0, 1), 0)
        helpers.assert_raises(self, "BadLayout", (), touched, front_habit(2), (0, 1, 2), 0)
        helpers.assert_raises(self, "BadPlace", (), touched, front_habit(3), (0, 1, 2), 3)
        self.assertEqual(touched(front_habit(3), (0, 1, 2), 2), (1, 2, 0))

    def test_arguments_are_not_modified(self):
        habit, layout, word = [[1, 0], [0, 1]], [0, 1], [0]
        before = copy.deepcopy((habit, layout, word))
        for values in ((habit, layout, word), (SWAP, layout, word), (SWAP, (0, 1), word)):
            with self.assertRaises(ValueError):
                after(*values)
        self.assertEqual((habit, layout, word), before)


class ComingTests(unittest.TestCase):
    def test_against_all_short_words(self):
        source = random.Random(2)
        for places, most in ((2, 3), (3, 7)):
            for _ in range(15):
                habit = helpers.random_habit(source, places)
                layout = helpers.random_layout(source, places)
                least = {}
                for word in words_up_to(places, most):
                    least.setdefault(slow_after(habit, layout, word), word)
                self.assertEqual(can_come(habit, layout), tuple(sorted(least)))
                self.assertEqual(farthest(habit, layout), max(len(word) for word in least.values()))
                for other in helpers.all_layouts(places):
                    word = least.get(other)
                    self.assertEqual(word_between(habit, layout, other), word)
                    self.assertEqual(distance(habit, layout, other), None if word is None else len(word))

    def test_least_of_the_shortest(self):
        self.assertEqual(word_between(((1, 0), (1, 0)), (0, 1), (1, 0)), (0,))
        self.assertEqual(word_between(((0, 1), (1, 0)), (0, 1), (1, 0)), (1,))
        self.assertEqual(word_between(SWAP, (0, 1), (0, 1)), ())

    def test_what_came_can_come_back(self):
        source = random.Random(3)
        for places in (2, 3, 4, 5):
            for _ in range(4):
                habit = helpers.random_habit(source, places)
                layout = helpers.random_layout(source, places)
                comes = can_come(habit, layout)
                for other in source.sample(comes, min(6, len(comes))):
                    self.assertEqual(can_come(habit, other), comes)
                    self.assertIsNotNone(distance(habit, other, layout))

    def test_order_counts_permutations(self):
        still_but_one = ((0, 1, 2, 3, 4),) * 4 + ((1, 2, 3, 4, 0),)
        self.assertEqual([order(turning_habit(places)) for places in (2, 3, 4, 5)], [2, 3, 4, 5])
        self.assertEqual([order(front_habit(places)) for places in (2, 3, 4, 5)], [2, 6, 24, 120])
        self.assertEqual([order(neighbour_habit(places)) for places in (2, 3, 4, 5)], [2, 6, 24, 120])
        self.assertEqual([order(still_but_one), order(STILL), farthest(STILL, (1, 0))], [5, 1, 0])
        self.assertEqual(farthest(still_but_one, (4, 3, 2, 1, 0)), 4)

    def test_distances_are_not_the_same_both_ways(self):
        habit = ((1, 2, 0),) * 3
        self.assertEqual(distance(habit, (0, 1, 2), (1, 2, 0)), 1)
        self.assertEqual(distance(habit, (1, 2, 0), (0, 1, 2)), 2)
        self.assertIsNone(distance(habit, (0, 1, 2), (1, 0, 2)))

    def test_equal_arguments_have_equal_answers(self):
        habit = front_habit(4)
        self.assertEqual(can_come(habit, (3, 1, 0, 2)), can_come(habit, (3, 1, 0, 2)))

    def test_wrong_arguments(self):
        habits, layouts = helpers.bad_habits(), helpers.bad_layouts()
        for function in (can_come, farthest):
            helpers.assert_names_wrong_arguments(self, function, (SWAP, (0, 1)), [habits, layouts])
        for function in (word_between, distance):
            helpers.assert_names_wrong_arguments(self, function, (SWAP, (0, 1), (1, 0)), [habits, layouts, layouts])
        helpers.assert_names_wrong_arguments(self, order, (SWAP,), [habits])


class KnownHabitTests(unittest.TestCase):
    def test_front(self):
        for places in (2, 3, 4, 5):
            for place, moves in enumerate(front_habit(places)):
                books = list(range(places))
                books.insert(0, books.pop(place))
                self.assertEqual(moves, tuple(books.index(book) for book in range(places)))

    def test_neighbours(self):
        self.assertEqual(neighbour_habit(4), ((0, 1, 2, 3), (1, 0, 2, 3), (0, 2, 1, 3), (0, 1, 3, 2)))

    def test_turning(self):
        self.assertEqual(turning_habit(3), ((0, 1, 2), (1, 2, 0), (2, 0, 1)))
        self.assertEqual(turning_habit(5)[3], (3, 4, 0, 1, 2))

    def test_front_distance_is_places_less_the_longest_kept_end(self):
        for places in (2, 3, 4):
            for one, other in itertools.product(helpers.all_layouts(places), repeat=2):
                self.assertEqual(distance(front_habit(places), one, other), places - kept_at_end(one, other))
        source = random.Random(4)
        for _ in range(60):
            one, other = helpers.random_layout(source, 5), helpers.random_layout(source, 5)
            self.assertEqual(distance(front_habit(5), one, other), 5 - kept_at_end(one, other))

    def test_wrong_numbers(self):
        for function in (front_habit, neighbour_habit, turning_habit):
            self.assertEqual([len(function(places)) for places in (2, 5)], [2, 5])
            helpers.assert_names_wrong_arguments(self, function, (3,), [helpers.bad_numbers(2, 5)])


if __name__ == "__main__":
    unittest.main()
