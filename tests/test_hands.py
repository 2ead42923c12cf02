"""Two hands at one shelf: points 76, 77 and 78, and what point 1 says of their arguments."""

import itertools
import math
import random
import unittest

from restlesshelf.benches import Shelf
from restlesshelf.hands import ends_of, first_clash, free_pairs, goes, hinders, straight, weaves_right
from restlesshelf.looks import books_of
from restlesshelf.shelves import after, front_habit, neighbour_habit
from tests import helpers

SWAP = ((1, 0), (0, 1))
STILL = ((0, 1), (0, 1))
STAY = ((0, 1, 2, 3, 4),) * 5
ZERO, ONE = ((0, 0),), ((1, 1),)


def all_weaves(first, second):
    """All weaves of so many deeds of each hand, ascending."""
    count = first + second
    return [tuple(int(at in ones) for at in range(count)) for ones in itertools.combinations(range(count), second)][::-1]


def woven(habit, layout, one, other, weave):
    """The deeds in the order of a weave, the books that they touch, and the layout behind them."""
    left, deeds, shelf = [list(one), list(other)], [], Shelf(habit, layout)
    books = []
    for hand in weave:
        place, name = left[hand].pop(0)
        books.append(shelf.layout.index(place))
        deeds.append((place, name))
        shelf.touch(place)
    return deeds, tuple(books), shelf.layout


def first_wrong(deeds, books):
    """The index of the first deed that touches another book than it should, None without one."""
    for at, ((_, name), book) in enumerate(zip(deeds, books)):
        if name not in (None, book):
            return at
    return None


def random_deeds(source, places, count):
    return tuple((source.randrange(places), source.choice([None, None] + list(range(places)))) for _ in range(count))


def random_hands(source, most):
    """A shelf and two hands, which often access names straight."""
    places = source.randint(2, 5)
    habit, layout = helpers.random_habit(source, places), helpers.random_layout(source, places)
    if source.random() < 0.5:
        habit = tuple(tuple(range(places)) if source.random() < 0.6 else moves for moves in habit)
    hands = []
    for _ in range(2):
        count = source.randint(0, most)
        if source.random() < 0.6:
            names = tuple(source.randrange(places) for _ in range(count))
            hands.append(straight(habit, layout, names))
        else:
            hands.append(random_deeds(source, places, count))
    return habit, layout, hands[0], hands[1]


class ExampleTests(unittest.TestCase):
    def test_examples(self):
        one, other = straight(SWAP, (0, 1), (0, 0)), straight(SWAP, (0, 1), (1,))
        self.assertEqual([one, other], [((0, 0), (1, 0)), ((1, 1),)])
        self.assertEqual(goes(SWAP, (0, 1), one, other, (0, 1, 0)), (0, 0, 0))
        self.assertEqual([first_clash(SWAP, (0, 1), one, other), weaves_right(SWAP, (0, 1), one, other)], [
            (0, 1), (1, (1, 0, 0))])
        self.assertEqual(free_pairs(SWAP, (0, 1)), ((1, 1),))


class GoingTests(unittest.TestCase):
    def test_books_that_the_deeds_touch(self):
        source = random.Random(271)
        for _ in range(150):
            habit, layout, one, other = random_hands(source, 8)
            weave = source.choice(all_weaves(min(len(one), 4), min(len(other), 4)))
            one, other = one[:4], other[:4]
            deeds, books, _ = woven(habit, layout, one, other, weave)
            self.assertEqual(goes(habit, layout, one, other, weave), books)
            self.assertEqual(books, books_of(habit, layout, tuple(place for place, _ in deeds)))

    def test_edges(self):
        self.assertEqual(goes(SWAP, (0, 1), (), (), ()), ())
        self.assertEqual(goes(SWAP, (0, 1), ((0, None),) * 8, (), (0,) * 8), (0, 1) * 4)
        self.assertEqual(goes(SWAP, (0, 1), (), ((0, None),) * 8, (1,) * 8), (0, 1) * 4)
        self.assertEqual(goes(SWAP, (0, 1), ((0, 0),) * 8, ((1, 1),) * 8, (0, 1) * 8), (0, 0, 1, 1) * 4)

    def test_straight(self):
        source = random.Random(272)
        for _ in range(150):
            places = source.randint(2, 5)
            habit, layout = helpers.random_habit(source, places), helpers.random_layout(source, places)
            names = tuple(source.randrange(places) for _ in range(source.choice((0, 1, 3, 8))))
            deeds = straight(habit, layout, names)
            shelf = Shelf(habit, layout)
            for name in names:
                shelf.fetch(name)
            self.assertEqual(deeds, tuple(zip(shelf.path, names)))
            self.assertEqual(goes(habit, layout, deeds, (), (0,) * len(names)), names)
            self.assertIsNone(first_clash(habit, layout, deeds, ()))
            self.assertEqual(weaves_right(habit, layout, (), deeds), (1, (1,) * len(names)))


class WeaveTests(unittest.TestCase):
    def assert_all_weaves(self, habit, layout, one, other):
        clashes, right, ends = set(), [], set()
        for weave in all_weaves(len(one), len(other)):
            deeds, books, behind = woven(habit, layout, one, other, weave)
            ends.add(behind)
            at = first_wrong(deeds, books)
            if at is None:
                right.append(weave)
            else:
                clashes.add(weave[:at + 1])
        clash = min(clashes, key=lambda row: (len(row), row), default=None)
        self.assertEqual(first_clash(habit, layout, one, other), clash)
        self.assertEqual(weaves_right(habit, layout, one, other), (len(right), min(right, default=None)))
        self.assertEqual(ends_of(habit, layout, one, other), tuple(sorted(ends)))
        return clash is None, bool(right), len(ends) > 1

    def test_against_all_weaves(self):
        source = random.Random(273)
        told = {}
        for _ in range(400):
            ends = self.assert_all_weaves(*random_hands(source, 4))
            told[ends] = told.get(ends, 0) + 1
        # Hands that always hinder one another, sometimes, and never.
        for ends in ((False, False, True), (False, True, True), (True, True, False)):
            self.assertGreater(told.get(ends, 0), 10)

    def test_eight_deeds(self):
        source = random.Random(274)
        habit, layout = neighbour_habit(4), (2, 0, 3, 1)
        one = straight(habit, layout, tuple(source.randrange(4) for _ in range(8)))
        other = random_deeds(source, 4, 8)
        self.assert_all_weaves(habit, layout, one[:6], other[:5])
        self.assertEqual(first_clash(habit, layout, one, other)[-1:], (1,))
        self.assertEqual(weaves_right(STAY, (0, 1, 2, 3, 4), ((3, 3),) * 8, ((1, None),) * 8), (
            math.comb(16, 8), (0,) * 8 + (1,) * 8))
        self.assertEqual(ends_of(STAY, (0, 1, 2, 3, 4), ((3, 3),) * 8, ((1, 0),) * 8), ((0, 1, 2, 3, 4),))
        anyway = ((0, None),) * 8
        self.assertEqual(weaves_right(front_habit(2), (0, 1), anyway, ((1, None),) * 8)[0], 12870)
        self.assertEqual(ends_of(SWAP, (0, 1), anyway, anyway), ((0, 1),))

    def test_no_deeds(self):
        self.assertEqual(first_clash(SWAP, (1, 0), (), ()), None)
        self.assertEqual(weaves_right(SWAP, (1, 0), (), ()), (1, ()))
        self.assertEqual(ends_of(SWAP, (1, 0), (), ()), ((1, 0),))
        self.assertEqual(first_clash(SWAP, (1, 0), ZERO, ()), (0,))
        self.assertEqual(weaves_right(SWAP, (1, 0), (), ZERO), (0, None))
        self.assertEqual(ends_of(SWAP, (1, 0), (), ZERO), ((0, 1),))

    def test_by_hand(self):
        # Any book will do for the first hand, the second one must be first.
        self.assertEqual(first_clash(SWAP, (0, 1), ((0, None),), ZERO), (0, 1))
        self.assertEqual(weaves_right(SWAP, (0, 1), ((0, None),), ZERO), (1, (1, 0)))
        self.assertEqual(first_clash(SWAP, (0, 1), ((0, None),) * 8, ((0, None),) * 8), None)
        # A deed that is wrong alone is a clash at once, and the least of the shortest if it is the first hand's.
        self.assertEqual(first_clash(STILL, (0, 1), ((0, 1),), ((1, 0),)), (0,))
        self.assertEqual(first_clash(STILL, (0, 1), ((0, 0),), ((1, 0),)), (1,))
        self.assertEqual(first_clash(STILL, (0, 1), ((0, 0), (1, 0)), ((1, 1),)), (0, 0))
        self.assertEqual(ends_of(front_habit(3), (0, 1, 2), ((2, 2),), ((1, 1),)), (
            after(front_habit(3), (0, 1, 2), (2, 1)), after(front_habit(3), (0, 1, 2), (1, 2))))


class HinderTests(unittest.TestCase):
    def test_hinders(self):
        source = random.Random(275)
        for _ in range(200):
            places = source.randint(2, 5)
            habit, layout = helpers.random_habit(source, places), helpers.random_layout(source, places)
            names, others = (tuple(source.randrange(places) for _ in range(source.randint(0, 8))) for _ in range(2))
            one, other = straight(habit, layout, names), straight(habit, layout, others)
            self.assertEqual(hinders(habit, layout, names, others), first_clash(habit, layout, one, other))
        self.assertIsNone(hinders(STAY, (0, 1, 2, 3, 4), (0,) * 8, (4, 3, 2, 1, 0)))
        self.assertIsNone(hinders(SWAP, (0, 1), (), (0, 1, 0)))
        self.assertEqual(hinders(SWAP, (0, 1), (0,), (0,)), (0, 1))

    def test_free_pairs(self):
        source = random.Random(276)
        for _ in range(60):
            places = source.randint(2, 5)
            habit, layout = helpers.random_habit(source, places), helpers.random_layout(source, places)
            if source.random() < 0.5:
                habit = tuple(tuple(range(places)) if source.random() < 0.6 else moves for moves in habit)
            free = []
            for pair in itertools.product(range(places), repeat=2):
                ends = [after(habit, layout, (layout[pair[hand]],)) for hand in (0, 1)]
                if all(ends[hand][pair[1 - hand]] == layout[pair[1 - hand]] for hand in (0, 1)):
                    free.append(pair)
            self.assertEqual(free_pairs(habit, layout), tuple(free))
        self.assertEqual(free_pairs(STILL, (1, 0)), ((0, 0), (0, 1), (1, 0), (1, 1)))
        self.assertEqual(free_pairs(((1, 0), (1, 0)), (1, 0)), ())
        # Both orders of a pair are free, or neither.
        self.assertEqual(free_pairs(((0, 1, 2), (0, 1, 2), (1, 0, 2)), (0, 1, 2)), (
            (0, 0), (0, 1), (1, 0), (1, 1), (2, 2)))


def bad_deeds():
    """Values that are no deeds on a shelf of two places."""
    deeds = [(0,), (0, 0, 0), [0, 0], (2, 0), (-1, 0), (0, 2), (0, -1), (None, 0), (True, 0), (0, False), ("0", 0), (0, "0")]
    deeds += [0, None, "ab", (), {}, (0, (0,)), ((0,), 0), (0, [])]
    rows = [(deed,) for deed in deeds] + [((0, 0), deed) for deed in deeds]
    return helpers.awaited("BadDeeds", (), list(helpers.ODD) + [0, (0, 0), [(0, 0)], ((0, 0),) * 9] + rows)


def bad_weaves():
    """Values that are no weaves of two deeds and one."""
    values = [(), (0, 1), (0, 0), (0, 0, 0), (0, 1, 1), (1, 1, 0), (0, 1, 0, 1), (0, 0, 1, 0), (0, 1, 2), (0, 1, -1)]
    values += [(False, True, False), (0, True, 0), (0, 1, False), [0, 1, 0], (0, 1, None), (0, "1", 0), 0, "010", (0, 1, (0,))]
    return helpers.awaited("BadWeave", (), list(helpers.ODD) + values)


class WrongArgumentTests(unittest.TestCase):
    def test_wrong_arguments(self):
        rows = [helpers.bad_habits(), helpers.bad_layouts()]
        hands = rows + [bad_deeds(), bad_deeds()]
        good = (SWAP, (0, 1), ((0, 0), (1, None)), ((1, 1),))
        helpers.assert_names_wrong_arguments(self, goes, good + ((0, 1, 0),), hands + [bad_weaves()])
        for function in (first_clash, weaves_right, ends_of):
            helpers.assert_names_wrong_arguments(self, function, good, hands)
        names = helpers.bad_name_rows(8)
        helpers.assert_names_wrong_arguments(self, straight, (SWAP, (0, 1), (0, 1)), rows + [names])
        helpers.assert_names_wrong_arguments(self, hinders, (SWAP, (0, 1), (0, 1), (1,)), rows + [names, names])
        helpers.assert_names_wrong_arguments(self, free_pairs, (SWAP, (0, 1)), rows)

    def test_weaves_of_the_other_number(self):
        for one, other, weave in (((), (), (0,)), (ZERO, (), ()), (ZERO, (), (1,)), ((), ZERO, (0,)), (ZERO, ONE, (0,) * 400)):
            helpers.assert_raises(self, "BadWeave", (), goes, STILL, (0, 1), one, other, weave)

    def test_nine_deeds(self):
        for function in (first_clash, weaves_right, ends_of):
            function(SWAP, (0, 1), ((0, 0),) * 8, ((0, None),) * 8)
            helpers.assert_raises(self, "BadDeeds", (), function, SWAP, (0, 1), ((0, 0),) * 9, ())
            helpers.assert_raises(self, "BadDeeds", (), function, SWAP, (0, 1), (), ((0, 0),) * 9)
        helpers.assert_raises(self, "BadNames", (), straight, SWAP, (0, 1), (0,) * 9)
        helpers.assert_raises(self, "BadNames", (), hinders, SWAP, (0, 1), (), (0,) * 9)


if __name__ == "__main__":
    unittest.main()
