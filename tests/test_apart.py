"""Telling shelves apart: points 12 and 13, and what point 1 says of their arguments."""

import itertools
import random
import unittest

from restlesshelf.apart import alike_paper, habits_left, shows_alike, shows_test, test
from restlesshelf.errors import BadHabits
from restlesshelf.programs import run_restless
from restlesshelf.shelves import front_habit, neighbour_habit, turning_habit
from tests import helpers

STILL = ((0, 1), (0, 1))
SWAP = ((1, 0), (0, 1))
LOT = (0, 1)


def reads(habit, place, word, read):
    """Whether a test reads the mark, by a run of a program that does it."""
    program = (("put", 1), ("set", place)) + tuple(("touch", touch) for touch in word) + (("get", read), ("say",))
    return run_restless(habit, program, (), 1000)[0] == (1,)


def telling_tests(habit, other, lot, most):
    """All tests of a lot that tell, with words of at most so many places, the shortest first."""
    words = [word for count in range(most + 1) for word in itertools.product(lot, repeat=count)]
    rows = [(place, word, read) for word in words for place in lot for read in lot]
    return [row for row in rows if reads(habit, *row) != reads(other, *row)]


def slow_paper(habit, other, lot):
    """All pairs of places to which a mark of a lot can come."""
    pairs = {(habit[place][place], other[place][place]) for place in lot}
    while True:
        more = pairs | {(habit[touch][one], other[touch][two]) for one, two in pairs for touch in lot}
        if more == pairs:
            return tuple(sorted(pairs))
        pairs = more


def all_lots(places):
    return [lot for count in range(1, places + 1) for lot in itertools.combinations(range(places), count)]


def near_habits(source, places):
    """Two habits that are alike at most places."""
    habit = helpers.random_habit(source, places)
    other = list(habit)
    for _ in range(source.randint(0, 2)):
        other[source.randrange(places)] = helpers.random_layout(source, places)
    return habit, tuple(other)


class ExampleTests(unittest.TestCase):
    def test_examples(self):
        self.assertIsNone(test(STILL, STILL, (0, 1)))
        self.assertEqual(alike_paper(STILL, STILL, (0, 1)), ((0, 0), (1, 1)))
        self.assertIs(shows_test(STILL, SWAP, (0, 1), (0, (), 0)), True)
        self.assertIsNone(test(STILL, SWAP, (1,)))
        self.assertEqual(alike_paper(STILL, SWAP, (1,)), ((1, 1),))
        self.assertIs(shows_alike(STILL, SWAP, (1,), ((1, 1),)), True)
        self.assertEqual(habits_left((STILL, SWAP), (0, 1), 0, (), 0, False), (1,))
        with self.assertRaises(BadHabits) as caught:
            test(STILL, ((0, 1, 2),) * 3, (0,))
        self.assertEqual(caught.exception.index, 1)


class TellingTests(unittest.TestCase):
    def test_against_all_short_tests(self):
        source = random.Random(20)
        told = {True: 0, False: 0}
        for _ in range(120):
            habit, other = near_habits(source, source.choice((2, 3)))
            for lot in all_lots(len(habit)):
                tests = telling_tests(habit, other, lot, 3)
                value = test(habit, other, lot)
                told[value is not None] += 1
                self.assertIs(shows_test(habit, other, lot, value), True)
                if tests:
                    self.assertEqual(len(value[1]), len(tests[0][1]))
                    self.assertIn(value, tests)
                    for row in source.sample(tests, min(4, len(tests))):
                        self.assertIs(shows_test(habit, other, lot, row), len(row[1]) == len(tests[0][1]))
                else:
                    self.assertTrue(value is None or len(value[1]) > 3)
                paper = slow_paper(habit, other, lot)
                is_told = any(one != two and (one in lot or two in lot) for one, two in paper)
                self.assertEqual(value is not None, is_told)
                self.assertEqual(alike_paper(habit, other, lot), None if is_told else paper)
        self.assertGreater(min(told.values()), 60)

    def test_all_places_tell_exactly_unlike_habits(self):
        habits = [(one, two) for one in ((0, 1), (1, 0)) for two in ((0, 1), (1, 0))]
        for habit, other in itertools.product(habits, repeat=2):
            self.assertEqual(test(habit, other, LOT) is None, habit == other)
            self.assertEqual(alike_paper(habit, other, LOT) is None, habit != other)
        source = random.Random(21)
        for _ in range(150):
            habit, other = near_habits(source, source.randint(3, 5))
            lot = tuple(range(len(habit)))
            value = test(habit, other, lot)
            self.assertEqual(value is None, habit == other)
            if value is not None:
                self.assertNotEqual(reads(habit, *value), reads(other, *value))

    def test_a_long_word(self):
        one = ((1, 2, 3, 4, 0),) + turning_habit(5)[1:]
        other = ((1, 2, 3, 0, 4),) + turning_habit(5)[1:]
        self.assertEqual(test(one, other, (0,)), (0, (0, 0, 0), 0))
        self.assertIs(shows_test(one, other, (0,), (0, (0, 0, 0, 0), 0)), False)

    def test_tests_keep_to_the_lot(self):
        value = test(front_habit(3), neighbour_habit(3), (1, 2))
        self.assertTrue({value[0], value[2], *value[1]} <= {1, 2})
        self.assertIs(shows_test(front_habit(3), neighbour_habit(3), (1,), (2, (), 2)), False)
        self.assertIs(shows_test(front_habit(3), neighbour_habit(3), (0, 2), (2, (1,), 2)), False)

    def test_any_value_may_be_shown(self):
        right = (0, (), 0)
        self.assertIs(shows_test(STILL, SWAP, LOT, right), True)
        wrong = [(0, 0), (0, (), 0, 0), [0, (), 0], (0, [], 0), (False, (), 0), (0, (), False), (0, (0,), 0), (2, (), 0)]
        wrong += [(0, (), 2), (0, None, 0), (None, (), 0), (0, (2,), 0), (0, (True,), 0), ((), (), ()), (1, (), 1)]
        wrong += [value for value in helpers.ODD] + [0, ((0, (), 0),), ({}, [], {}), (0, ({},), 0), (0, ((),), 0)]
        for value in wrong:
            self.assertIs(shows_test(STILL, SWAP, LOT, value), False, value)
            self.assertIs(shows_test(STILL, STILL, LOT, value), value is None, value)
        self.assertIs(shows_test(STILL, STILL, LOT, right), False)

    def test_wrong_arguments(self):
        first = [(value, "BadHabits", (0,)) for value, _, _ in helpers.bad_habits()]
        later = [(value, "BadHabits", (1,)) for value, _, _ in helpers.bad_habits()]
        later.append((turning_habit(3), "BadHabits", (1,)))
        rows = [first, later, helpers.bad_lots()]
        for function in (test, alike_paper):
            helpers.assert_names_wrong_arguments(self, function, (STILL, SWAP, LOT), rows)
        for function in (shows_test, shows_alike):
            helpers.assert_names_wrong_arguments(self, function, (STILL, SWAP, LOT, None), rows + [[]])

    def test_lots(self):
        self.assertIsNone(test(front_habit(5), front_habit(5), (0, 1, 2, 3, 4)))
        for lot in ((0, 1, 2, 3, 4, 5), (0, 5), (4, 3), (1, 1), ()):
            helpers.assert_raises(self, "BadPlace", (), test, front_habit(5), front_habit(5), lot)


class PaperTests(unittest.TestCase):
    def test_papers_show(self):
        source = random.Random(22)
        shown = 0
        for _ in range(200):
            habit, other = near_habits(source, source.choice((2, 3, 4)))
            lot = source.choice(all_lots(len(habit)))
            paper = alike_paper(habit, other, lot)
            if paper is None:
                self.assertIs(shows_alike(habit, other, lot, slow_paper(habit, other, lot)), False)
                continue
            shown += 1
            self.assertIs(shows_alike(habit, other, lot, paper), True)
            for pair in paper:
                self.assertIs(shows_alike(habit, other, lot, tuple(row for row in paper if row != pair)), False)
            self.assertIs(shows_alike(habit, other, lot, paper[::-1]), len(paper) == 1)
            self.assertIs(shows_alike(habit, other, lot, list(paper)), False)
            self.assertIs(shows_alike(habit, other, lot, paper + paper[-1:]), False)
        self.assertGreater(shown, 40)

    def test_papers_may_have_more_pairs(self):
        still = ((0, 1, 2),) * 3
        self.assertEqual(alike_paper(still, still, (0,)), ((0, 0),))
        for value in (((0, 0), (1, 1)), ((0, 0), (1, 2)), ((0, 0), (1, 1), (1, 2), (2, 1), (2, 2))):
            self.assertIs(shows_alike(still, still, (0,), value), True)
        for value in (((0, 0), (0, 1)), ((0, 0), (2, 0)), ((1, 1),), ((0, 0), (1, 3)), ((0, 0), (1, 1, 1)), ((0, 0), (1,))):
            self.assertIs(shows_alike(still, still, (0,), value), False)

    def test_pairs_of_two_shelves_are_closed_by_the_lot_alone(self):
        self.assertIs(shows_alike(STILL, SWAP, (1,), ((0, 0), (1, 1))), True)
        turning = turning_habit(3)
        self.assertIs(shows_alike(turning, turning, (0,), ((0, 0), (1, 1))), True)
        self.assertIs(shows_alike(turning, turning, (1,), ((0, 0), (1, 1))), False)
        self.assertIs(shows_alike(turning, turning, (1,), ((0, 0), (1, 1), (2, 2))), True)

    def test_any_value_may_be_shown(self):
        wrong = [value for value in helpers.ODD] + [0, (), ((0, 0),), ((0, 0), [1, 1]), ((0, 0), (1, True)), ((0, 0), 1)]
        wrong += [((0, 0), (1, 1), None), ((0, 0), (1, 1), (2, 2)), ((1, 1), (0, 0)), ((0, 0), (1, 1), (1, 1))]
        wrong += [((False, 0), (1, 1)), tuple((0, 0) for _ in range(26)), ({}, {}), (((), ()), ((), ()))]
        self.assertIs(shows_alike(STILL, STILL, LOT, ((0, 0), (1, 1))), True)
        for value in wrong:
            self.assertIs(shows_alike(STILL, STILL, LOT, value), False, value)


class LeftTests(unittest.TestCase):
    def test_against_programs(self):
        source = random.Random(23)
        for _ in range(150):
            places = source.randint(2, 5)
            habits = tuple(helpers.random_habit(source, places) for _ in range(source.randint(1, 3)))
            lot = source.choice(all_lots(places))
            place, read = source.choice(lot), source.choice(lot)
            word = tuple(source.choice(lot) for _ in range(source.randint(0, 6)))
            for is_marked in (True, False):
                left = tuple(at for at, habit in enumerate(habits) if reads(habit, place, word, read) is is_marked)
                self.assertEqual(habits_left(habits, lot, place, word, read, is_marked), left)

    def test_both_answers_part_the_habits(self):
        habits = (STILL, SWAP, STILL)
        self.assertEqual(habits_left(habits, LOT, 0, (), 0, True), (0, 2))
        self.assertEqual(habits_left(habits, LOT, 0, (), 0, False), (1,))
        self.assertEqual(habits_left((STILL,), (1,), 1, (1, 1), 1, False), ())

    def test_wrong_arguments(self):
        places = helpers.bad_places()
        words = helpers.awaited("BadPlace", (), helpers.ODD + (0, (0, 2), (-1,), (True,), (0, False), [0]))
        answers = helpers.awaited("BadAnswer", (), [0, 1, None, "True", (), [], {}, (True,), -1, ""])
        rows = [helpers.bad_habit_rows(), helpers.bad_lots(), places, words, places, answers]
        helpers.assert_names_wrong_arguments(self, habits_left, ((STILL, SWAP), LOT, 0, (0,), 1, True), rows)

    def test_places_out_of_the_lot(self):
        good = ((STILL, SWAP), (1,), 1, (), 1, True)
        self.assertEqual(habits_left(*good), (0, 1))
        for at, value in ((2, 0), (3, (0,)), (3, (1, 0)), (4, 0)):
            values = good[:at] + (value,) + good[at + 1:]
            helpers.assert_raises(self, "BadPlace", (), habits_left, *values)
            helpers.assert_raises(self, "BadPlace", (), habits_left, *values[:5], None)
        helpers.assert_raises(self, "BadAnswer", (), habits_left, *good[:5], 1)


if __name__ == "__main__":
    unittest.main()
