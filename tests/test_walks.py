"""Books looked for from the front on: points 63 and 64, and what point 1 says of their arguments."""

import itertools
import random
import unittest

from restlesshelf.benches import Shelf
from restlesshelf.shelves import front_habit
from restlesshelf.walks import best_still, crossed, front_bound, front_walk, still_walk, walked
from tests import helpers


def slow_front_walk(order, names):
    """What is walked, the book that is asked each time being put ahead of all others."""
    steps = 0
    for name in names:
        steps += order.index(name) + 1
        order = (name,) + tuple(book for book in order if book != name)
    return steps


def random_order(source, books):
    return tuple(source.sample(range(books), books))


def random_names(source, books, most):
    return tuple(source.randrange(books) for _ in range(source.randint(0, most)))


def layout_of(order):
    return tuple(order.index(name) for name in range(len(order)))


class ExampleTests(unittest.TestCase):
    def test_examples(self):
        self.assertEqual([front_walk((0, 1, 2), (2, 2, 1)), best_still(3, (2, 2, 1))], [7, ((2, 1, 0), 4)])
        self.assertEqual(front_bound((0, 1, 2), (2, 1, 0), (2, 2, 1)), 8)
        helpers.assert_raises(self, "BadLayout", (), front_walk, (0, 0), ())


class WalkTests(unittest.TestCase):
    def test_walked_on_a_shelf(self):
        source = random.Random(201)
        for _ in range(150):
            places = source.randint(2, 5)
            habit, layout = helpers.random_habit(source, places), helpers.random_layout(source, places)
            names = random_names(source, places, 20)
            shelf = Shelf(habit, layout)
            steps = 0
            for name in names:
                steps += shelf.layout[name] + 1
                shelf.fetch(name)
            self.assertEqual(walked(habit, layout, names), steps)
            self.assertEqual(walked(habit, layout, ()), 0)

    def test_front_walk_is_walked_to_the_front(self):
        source = random.Random(202)
        for _ in range(150):
            places = source.randint(2, 5)
            order, names = random_order(source, places), random_names(source, places, 20)
            self.assertEqual(front_walk(order, names), walked(front_habit(places), layout_of(order), names))
            never_moves = (tuple(range(places)),) * places
            self.assertEqual(still_walk(order, names), walked(never_moves, layout_of(order), names))

    def test_up_to_30_books(self):
        source = random.Random(203)
        for books in list(range(1, 31)) * 3:
            order, names = random_order(source, books), random_names(source, books, 200)
            self.assertEqual(front_walk(order, names), slow_front_walk(order, names))
            self.assertEqual(still_walk(order, names), sum(order.index(name) + 1 for name in names))

    def test_edges(self):
        self.assertEqual([front_walk((0,), ()), still_walk((0,), ()), best_still(1, ())], [0, 0, ((0,), 0)])
        self.assertEqual([front_walk((0,), (0,) * 200), still_walk((0,), (0,) * 200)], [200, 200])
        self.assertEqual(best_still(30, (29,) * 200), ((29,) + tuple(range(29)), 200))
        last = tuple(range(30))
        self.assertEqual([front_walk(last, (29,) * 200), still_walk(last, (29,) * 200)], [30 + 199, 6000])
        self.assertEqual(walked(front_habit(2), (0, 1), (1,) * 200), 2 + 199)

    def test_orders_are_no_layouts(self):
        # The book 1 stands foremost, and book 0 last.
        self.assertEqual([front_walk((1, 2, 0), (0,)), still_walk((1, 2, 0), (0, 1, 2))], [3, 6])
        self.assertEqual([still_walk((1, 2, 0), (1,)), walked(front_habit(3), (1, 2, 0), (1,))], [1, 3])


class BestStillTests(unittest.TestCase):
    def test_no_order_is_walked_less(self):
        source = random.Random(204)
        for _ in range(60):
            many = source.randint(1, 5)
            names = random_names(source, many, 9)
            order, steps = best_still(many, names)
            self.assertEqual(steps, min(still_walk(other, names) for other in itertools.permutations(range(many))))
            self.assertEqual(steps, still_walk(order, names))

    def test_those_as_often_by_their_names(self):
        self.assertEqual(best_still(4, ()), ((0, 1, 2, 3), 0))
        self.assertEqual(best_still(4, (3, 1)), ((1, 3, 0, 2), 3))
        self.assertEqual(best_still(4, (3, 1, 3, 0, 0, 2)), ((0, 3, 1, 2), 13))
        source = random.Random(205)
        for _ in range(60):
            many = source.randint(1, 30)
            names = random_names(source, many, 60)
            order, _ = best_still(many, names)
            for one, other in zip(order, order[1:]):
                times = [names.count(one), names.count(other)]
                self.assertTrue(times[0] > times[1] or (times[0] == times[1] and one < other))


class BoundTests(unittest.TestCase):
    def test_crossed_is_how_many_neighbours_change(self):
        source = random.Random(206)
        for _ in range(60):
            books = source.randint(1, 12)
            one, other = random_order(source, books), random_order(source, books)
            row, changes = [one.index(name) for name in other], 0
            while row != sorted(row):
                at = next(at for at in range(books - 1) if row[at] > row[at + 1])
                row[at], row[at + 1] = row[at + 1], row[at]
                changes += 1
            self.assertEqual(crossed(one, other), changes)
            self.assertEqual(crossed(other, one), changes)
            self.assertEqual(crossed(one, one), 0)

    def test_crossed_by_hand(self):
        self.assertEqual(crossed((0,), (0,)), 0)
        self.assertEqual(crossed((1, 2, 0), (0, 1, 2)), 2)
        self.assertEqual(crossed((1, 2, 0), (2, 0, 1)), 2)
        self.assertEqual(crossed(tuple(range(30)), tuple(range(29, -1, -1))), 435)

    def test_never_more(self):
        source = random.Random(207)
        is_reached = False
        for _ in range(400):
            books = source.choice((1, 2, 3, 5, 30))
            order, other = random_order(source, books), random_order(source, books)
            names = random_names(source, books, source.choice((0, 3, 200)))
            bound = front_bound(order, other, names)
            self.assertEqual(bound, 2 * still_walk(other, names) + crossed(order, other) - len(names))
            self.assertLessEqual(front_walk(order, names), bound)
            self.assertLessEqual(front_walk(order, names), front_bound(order, best_still(books, names)[0], names))
            is_reached = is_reached or (len(names) > 1 and books > 1 and front_walk(order, names) == bound)
        self.assertTrue(is_reached)

    def test_never_more_for_all_small_ones(self):
        orders = helpers.all_layouts(3)
        for order, other in itertools.product(orders, orders):
            for names in itertools.product(range(3), repeat=4):
                self.assertLessEqual(front_walk(order, names), front_bound(order, other, names))


class WrongArgumentTests(unittest.TestCase):
    def test_wrong_arguments(self):
        orders, names = helpers.bad_rows_of_books(30), helpers.bad_name_rows(200)
        lengths = helpers.awaited("BadLayout", (), [(0,), (0, 1, 2), (2, 1, 0), tuple(range(30))])
        rows = [helpers.bad_habits(), helpers.bad_layouts(), names]
        helpers.assert_names_wrong_arguments(self, walked, (front_habit(2), (0, 1), (0, 1)), rows)
        for function in (front_walk, still_walk):
            helpers.assert_names_wrong_arguments(self, function, ((1, 0), (0, 1)), [orders, names])
        helpers.assert_names_wrong_arguments(self, crossed, ((1, 0), (0, 1)), [orders, orders + lengths])
        helpers.assert_names_wrong_arguments(
            self, front_bound, ((1, 0), (0, 1), (0,)), [orders, orders + lengths, names])
        numbers = [(value, "BadLayout", ()) for value, _, _ in helpers.bad_numbers(1, 30)]
        helpers.assert_names_wrong_arguments(self, best_still, (2, (0, 1)), [numbers, names])

    def test_bounds(self):
        for function in (front_walk, still_walk):
            function(tuple(range(30)), (29,) * 200)
            helpers.assert_raises(self, "BadNames", (), function, tuple(range(30)), (29,) * 201)
            helpers.assert_raises(self, "BadNames", (), function, tuple(range(30)), (30,))
            helpers.assert_raises(self, "BadLayout", (), function, tuple(range(31)), ())
        helpers.assert_raises(self, "BadLayout", (), crossed, tuple(range(31)), tuple(range(31)))
        helpers.assert_raises(self, "BadNames", (), best_still, 3, (3,))
        helpers.assert_raises(self, "BadNames", (), walked, front_habit(2), (0, 1), (0,) * 201)
        self.assertEqual(best_still(30, ()), (tuple(range(30)), 0))


if __name__ == "__main__":
    unittest.main()
