"""Shelves put together: point 70, what words make then, and what point 1 says of their arguments."""

import itertools
import math
import random
import unittest

from restlesshelf.groups import all_agree, blocks, made_by, never, orbits, shows_never
from restlesshelf.joins import backed, beside, called, doubled, within
from restlesshelf.shelves import after, front_habit, neighbour_habit, order, touched, turning_habit
from tests import helpers

SWAP = ((1, 0), (0, 1))
TURN = ((1, 0), (1, 0))
STILL = ((0, 1), (0, 1))
TWO_PLACES = [tuple(habit) for habit in itertools.product(((0, 1), (1, 0)), repeat=2)]


class ExampleTests(unittest.TestCase):
    def test_examples(self):
        self.assertEqual(beside(SWAP, ((0, 1), (1, 0))), ((1, 0, 2, 3), (0, 1, 2, 3), (0, 1, 2, 3), (0, 1, 3, 2)))
        self.assertEqual(within(SWAP, TURN), ((3, 2, 0, 1), (3, 2, 0, 1), (0, 1, 3, 2), (0, 1, 3, 2)))


class BesideTests(unittest.TestCase):
    def test_each_touch_moves_its_own_books(self):
        source = random.Random(241)
        for sizes in ((2, 2), (2, 3), (3, 2)):
            for _ in range(20):
                one, other = (helpers.random_habit(source, places) for places in sizes)
                layouts = [helpers.random_layout(source, places) for places in sizes]
                habit = beside(one, other)
                for place in range(sum(sizes)):
                    first, second = layouts
                    if place < sizes[0]:
                        first = touched(one, first, place)
                    else:
                        second = touched(other, second, place - sizes[0])
                    whole = layouts[0] + tuple(sizes[0] + stood for stood in layouts[1])
                    behind = first + tuple(sizes[0] + stood for stood in second)
                    self.assertEqual(touched(habit, whole, place), behind)

    def test_what_words_make(self):
        source = random.Random(242)
        for sizes in ((2, 2), (2, 3), (3, 2)):
            for _ in range(10):
                one, other = (helpers.random_habit(source, places) for places in sizes)
                habit = beside(one, other)
                self.assertEqual(order(habit), order(one) * order(other))
                moved = tuple(tuple(sizes[0] + place for place in orbit) for orbit in orbits(other))
                self.assertEqual(orbits(habit), orbits(one) + moved)
                self.assertIs(all_agree(habit), all_agree(one) and all_agree(other))
                self.assertEqual(never(habit, tuple(range(sum(sizes)))[::-1])[0], "orbit")

    def test_places(self):
        self.assertEqual(len(beside(front_habit(2), front_habit(3))), 5)
        self.assertEqual(len(beside(front_habit(2), front_habit(2))), 4)
        for one, other in ((2, 4), (4, 2), (3, 3), (5, 5)):
            helpers.assert_raises(self, "TooMany", (5,), beside, front_habit(one), front_habit(other))


class WithinTests(unittest.TestCase):
    def test_houses_of_two(self):
        for outer, inner in itertools.product(TWO_PLACES, repeat=2):
            habit = within(outer, inner)
            for house, room in itertools.product(range(2), repeat=2):
                moves = habit[2 * house + room]
                for at, stood in itertools.product(range(2), repeat=2):
                    inside = inner[room][stood] if at == house else stood
                    self.assertEqual(moves[2 * at + stood], 2 * outer[house][at] + inside)

    def test_by_hand(self):
        # Nothing but the touched house changes if the outer shelf is still.
        self.assertEqual(within(STILL, SWAP), ((1, 0, 2, 3), (0, 1, 2, 3), (0, 1, 3, 2), (0, 1, 2, 3)))
        self.assertEqual(within(SWAP, STILL), ((2, 3, 0, 1), (2, 3, 0, 1), (0, 1, 2, 3), (0, 1, 2, 3)))

    def test_what_words_make(self):
        for outer, inner in itertools.product(TWO_PLACES, repeat=2):
            habit = within(outer, inner)
            self.assertIn(((0, 1), (2, 3)), blocks(habit))
            self.assertIs(shows_never(habit, (0, 2, 1, 3), ("blocks", ((0, 1), (2, 3)))), True)
            self.assertIn(order(habit), (1, 2, 4, 8))
        self.assertEqual(order(within(SWAP, SWAP)), 8)

    def test_places(self):
        for outer, inner in ((2, 3), (3, 2), (5, 5), (2, 5)):
            helpers.assert_raises(self, "TooMany", (5,), within, front_habit(outer), front_habit(inner))


class CalledTests(unittest.TestCase):
    def test_each_place_is_called_otherwise(self):
        source = random.Random(243)
        for _ in range(80):
            places = source.randint(2, 5)
            habit, names = helpers.random_habit(source, places), helpers.random_layout(source, places)
            new = called(habit, names)
            layout = helpers.random_layout(source, places)
            for place in range(places):
                expected = tuple(names[stood] for stood in touched(habit, layout, place))
                self.assertEqual(touched(new, tuple(names[stood] for stood in layout), names[place]), expected)

    def test_back_again(self):
        source = random.Random(244)
        for _ in range(40):
            places = source.randint(2, 5)
            habit, names = helpers.random_habit(source, places), helpers.random_layout(source, places)
            back = tuple(names.index(place) for place in range(places))
            self.assertEqual(called(called(habit, names), back), habit)
            self.assertEqual(called(habit, tuple(range(places))), habit)
            self.assertEqual(order(called(habit, names)), order(habit))
            parts = sorted(tuple(sorted(names[place] for place in orbit)) for orbit in orbits(habit))
            self.assertEqual(orbits(called(habit, names)), tuple(parts))

    def test_by_hand(self):
        habit = ((1, 2, 0), (0, 2, 1), (0, 1, 2))
        self.assertEqual(called(habit, (1, 2, 0)), ((0, 1, 2), (1, 2, 0), (2, 1, 0)))
        self.assertEqual(called(SWAP, (1, 0)), ((0, 1), (1, 0)))


class BackedAndDoubledTests(unittest.TestCase):
    def test_undone(self):
        source = random.Random(245)
        for _ in range(60):
            places = source.randint(2, 5)
            habit, layout = helpers.random_habit(source, places), helpers.random_layout(source, places)
            word = tuple(source.randrange(places) for _ in range(12))
            self.assertEqual(after(backed(habit), after(habit, layout, word), word[::-1]), layout)
            self.assertEqual(backed(backed(habit)), habit)
            self.assertEqual(order(backed(habit)), order(habit))

    def test_doubled(self):
        source = random.Random(246)
        for _ in range(60):
            places = source.randint(2, 5)
            habit, layout = helpers.random_habit(source, places), helpers.random_layout(source, places)
            for place in range(places):
                twice = touched(habit, touched(habit, layout, place), place)
                self.assertEqual(touched(doubled(habit), layout, place), twice)
            word = tuple(source.randrange(places) for _ in range(6))
            twofold = tuple(place for place in word for _ in range(2))
            self.assertEqual(made_by(doubled(habit), word), made_by(habit, twofold))

    def test_by_hand(self):
        self.assertEqual([backed(((1, 2, 0),) * 3), doubled(((1, 2, 0),) * 3)], [((2, 0, 1),) * 3] * 2)
        self.assertEqual([backed(SWAP), doubled(SWAP)], [SWAP, STILL])
        self.assertEqual(doubled(neighbour_habit(4)), ((0, 1, 2, 3),) * 4)
        self.assertEqual(backed(front_habit(3)), ((0, 1, 2), (1, 0, 2), (2, 0, 1)))
        for places in range(2, 6):
            # Only turns by an even number are left if the places are even in number.
            self.assertEqual(order(doubled(turning_habit(places))), places // math.gcd(places, 2))


class WrongArgumentTests(unittest.TestCase):
    def test_wrong_arguments(self):
        habits = helpers.bad_habits()
        for function in (beside, within):
            helpers.assert_names_wrong_arguments(self, function, (SWAP, STILL), [habits, habits])
            # Too many places are told after a wrong habit, however many it has.
            helpers.assert_raises(self, "BadHabit", (None,), function, front_habit(5), ())
            helpers.assert_raises(self, "BadHabit", (4,), function, front_habit(5)[:4] + (None,), front_habit(5))
            helpers.assert_raises(self, "BadHabit", (0,), function, front_habit(5), ((1, 1), (0, 1)))
        helpers.assert_names_wrong_arguments(self, called, (SWAP, (1, 0)), [habits, helpers.bad_layouts()])
        for function in (backed, doubled):
            helpers.assert_names_wrong_arguments(self, function, (SWAP,), [habits])


if __name__ == "__main__":
    unittest.main()
