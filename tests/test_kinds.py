"""Shelves of known kinds: points 65 and 66, and what point 1 says of their arguments."""

import itertools
import random
import unittest

from restlesshelf.kinds import (
    front_distance,
    front_word,
    kept_end,
    neighbour_distance,
    neighbour_word,
    turning_word,
)
from restlesshelf.shelves import after, distance, front_habit, neighbour_habit, turning_habit
from tests import helpers


def order_of(layout):
    return tuple(layout.index(place) for place in range(len(layout)))


def slow_kept_end(one, other):
    """The longest end of the other's order whose names stand in one by rising places."""
    books = order_of(other)
    for at in range(len(books)):
        places = [one[name] for name in books[at:]]
        if places == sorted(places):
            return books[at:]
    return ()


def led(layout, word, moves):
    """A layout behind a word, where moves tells by place and touch where what stands there goes."""
    for touch in word:
        layout = tuple(moves(place, touch, len(layout)) for place in layout)
    return layout


def to_the_front(place, touch, _):
    if place == touch:
        return 0
    return place + 1 if place < touch else place


def with_neighbour(place, touch, _):
    if touch > 0 and place in (touch - 1, touch):
        return 2 * touch - 1 - place
    return place


def turned(place, touch, places):
    return (place + touch) % places


def all_pairs(places):
    return itertools.product(helpers.all_layouts(places), repeat=2)


def some_pairs(source, many):
    """Pairs of random layouts of up to forty places, some of them nearly alike."""
    for _ in range(many):
        one = helpers.random_layout(source, source.randint(1, 40))
        other = list(one)
        if source.random() < 0.5:
            source.shuffle(other)
        for _ in range(source.randint(0, 2)):
            at, to = source.randrange(len(one)), source.randrange(len(one))
            other[at], other[to] = other[to], other[at]
        yield one, tuple(other)


class ExampleTests(unittest.TestCase):
    def test_examples(self):
        self.assertEqual([front_word((0, 1, 2), (1, 0, 2)), kept_end((0, 1, 2), (1, 0, 2))], [(1,), (0, 2)])
        self.assertEqual(neighbour_word((0, 1, 2), (2, 1, 0)), (2, 1, 2))
        self.assertEqual(turning_word((0, 1, 2), (1, 2, 0)), (1,))


class FrontTests(unittest.TestCase):
    def test_words_are_shortest(self):
        for places in (2, 3, 4):
            habit = front_habit(places)
            for one, other in all_pairs(places):
                word = front_word(one, other)
                self.assertEqual(after(habit, one, word), other)
                self.assertEqual(len(word), distance(habit, one, other))
                self.assertEqual(front_distance(one, other), len(word))
                self.assertEqual(kept_end(one, other), slow_kept_end(one, other))

    def test_five_places(self):
        source = random.Random(211)
        habit = front_habit(5)
        for _ in range(150):
            one, other = helpers.random_layout(source, 5), helpers.random_layout(source, 5)
            word = front_word(one, other)
            self.assertEqual(after(habit, one, word), other)
            self.assertEqual(len(word), distance(habit, one, other))

    def test_up_to_forty_places(self):
        for one, other in some_pairs(random.Random(212), 150):
            end = slow_kept_end(one, other)
            word = front_word(one, other)
            self.assertEqual(kept_end(one, other), end)
            self.assertEqual(led(one, word, to_the_front), other)
            self.assertEqual(len(word), len(one) - len(end))
            self.assertEqual(front_distance(one, other), len(word))

    def test_by_hand(self):
        self.assertEqual([front_word((0,), (0,)), kept_end((0,), (0,)), front_distance((0,), (0,))], [(), (0,), 0])
        forty, back = tuple(range(40)), tuple(range(39, -1, -1))
        self.assertEqual([front_word(forty, forty), kept_end(forty, forty)], [(), forty])
        self.assertEqual(front_distance(forty, forty), 0)
        self.assertEqual([kept_end(forty, back), front_distance(forty, back)], [(0,), 39])
        self.assertEqual(front_word(forty, back), tuple(range(1, 40)))
        # Books 1, 2 and 0 are to stand so from the front on; they stand as 0, 1, 2.
        self.assertEqual([kept_end((0, 1, 2), (2, 0, 1)), front_word((0, 1, 2), (2, 0, 1))], [(0,), (2, 2)])
        self.assertEqual([kept_end((0, 1, 2), (1, 2, 0)), front_word((0, 1, 2), (1, 2, 0))], [(0, 1), (2,)])


class NeighbourTests(unittest.TestCase):
    def test_words_are_shortest(self):
        for places in (2, 3, 4):
            habit = neighbour_habit(places)
            for one, other in all_pairs(places):
                word = neighbour_word(one, other)
                self.assertEqual(after(habit, one, word), other)
                self.assertEqual(len(word), distance(habit, one, other))
                self.assertEqual(neighbour_distance(one, other), len(word))

    def test_five_places(self):
        source = random.Random(213)
        habit = neighbour_habit(5)
        for _ in range(150):
            one, other = helpers.random_layout(source, 5), helpers.random_layout(source, 5)
            word = neighbour_word(one, other)
            self.assertEqual(after(habit, one, word), other)
            self.assertEqual(len(word), distance(habit, one, other))

    def test_up_to_forty_places(self):
        for one, other in some_pairs(random.Random(214), 100):
            pairs = itertools.combinations(range(len(one)), 2)
            unlike = sum((one[low] < one[high]) != (other[low] < other[high]) for low, high in pairs)
            word = neighbour_word(one, other)
            self.assertEqual(led(one, word, with_neighbour), other)
            self.assertEqual([len(word), neighbour_distance(one, other)], [unlike, unlike])

    def test_by_hand(self):
        self.assertEqual([neighbour_word((0,), (0,)), neighbour_distance((0,), (0,))], [(), 0])
        forty, back = tuple(range(40)), tuple(range(39, -1, -1))
        self.assertEqual([neighbour_word(forty, forty), neighbour_distance(forty, back)], [(), 780])
        self.assertEqual(len(neighbour_word(forty, back)), 780)
        self.assertEqual(neighbour_word((0, 1, 2), (1, 0, 2)), (1,))


class TurningTests(unittest.TestCase):
    def test_words_are_shortest(self):
        for places in (2, 3, 4):
            habit = turning_habit(places)
            for one, other in all_pairs(places):
                word = turning_word(one, other)
                if distance(habit, one, other) is None:
                    self.assertIsNone(word)
                else:
                    self.assertEqual(after(habit, one, word), other)
                    self.assertEqual(len(word), distance(habit, one, other))

    def test_up_to_forty_places(self):
        source = random.Random(215)
        for _ in range(200):
            one = helpers.random_layout(source, source.randint(1, 40))
            turn = source.randrange(len(one))
            other = led(one, (turn,), turned)
            self.assertEqual(turning_word(one, other), (turn,) if turn else ())
            if len(one) > 2:
                changed = list(other)
                at = source.randrange(len(one) - 1)
                changed[at], changed[at + 1] = changed[at + 1], changed[at]
                self.assertIsNone(turning_word(one, tuple(changed)))

    def test_by_hand(self):
        self.assertEqual([turning_word((0,), (0,)), turning_word((1, 0), (1, 0)), turning_word((1, 0), (0, 1))], [(), (), (1,)])
        forty = tuple(range(40))
        self.assertEqual(turning_word(forty, (39,) + forty[:39]), (39,))
        self.assertIsNone(turning_word(forty, forty[::-1]))
        self.assertIsNone(turning_word((0, 1, 2), (0, 2, 1)))


class WrongArgumentTests(unittest.TestCase):
    def test_wrong_arguments(self):
        rows = helpers.bad_rows_of_books(40)
        lengths = helpers.awaited("BadLayout", (), [(0,), (0, 1, 2), (2, 1, 0), tuple(range(40)), tuple(range(41))])
        for function in (kept_end, front_word, front_distance, neighbour_word, neighbour_distance, turning_word):
            helpers.assert_names_wrong_arguments(self, function, ((1, 0), (0, 1)), [rows, rows + lengths])
            function(tuple(range(40)), tuple(range(40)))
            helpers.assert_raises(self, "BadLayout", (), function, tuple(range(41)), tuple(range(41)))
            helpers.assert_raises(self, "BadLayout", (), function, (), ())


if __name__ == "__main__":
    unittest.main()
