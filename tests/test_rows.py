"""Several shelves: points 9, 10 and 11, and what point 1 says of their arguments."""

import itertools
import random
import unittest

from restlesshelf.carrying import carries
from restlesshelf.errors import NoWay
from restlesshelf.programs import run_restless, run_still, used
from restlesshelf.rows import (
    access_row,
    can_carry,
    carries_all,
    meeting,
    names_met,
    shows_access_row,
    stands,
    written_for_all,
)
from restlesshelf.shelves import front_habit, neighbour_habit, touched, turning_habit
from tests import helpers

STILL = ((0, 1), (0, 1))
SWAP = ((1, 0), (1, 0))
TWO = (STILL, SWAP)
START = ((0, 1), (1, 0))
APART = ((STILL, STILL), ((0, 1), (1, 0)))

# Three shelves with far more than 20000 stands.
WIDE = (front_habit(5), neighbour_habit(5), front_habit(5)[::-1])
WIDE_START = ((0, 1, 2, 3, 4), (1, 0, 2, 3, 4), (4, 3, 2, 0, 1))

# Each touch moves by the same permutation: names 0, 1 and 2 come round in 4, 5 and 3 touches, and meet at place 2 behind
# 10, 3 and 56 touches, one touch later at place 3, and not again until 60 touches are made.
ROUND = (((1, 2, 3, 0, 4),) * 5, ((1, 2, 3, 4, 0),) * 5, ((0, 1, 3, 4, 2),) * 5)
ROUND_START = ((0, 3, 2, 1, 4), (2, 4, 1, 0, 3), (4, 2, 3, 0, 1))

# Far more than 20000 stands, too; name 0 keeps to place 0 on the first shelf, to place 1 on the second one.
PARTED = (
    ((0, 4, 1, 3, 2), (0, 1, 2, 4, 3), (0, 2, 4, 3, 1), (0, 3, 1, 2, 4), (0, 1, 4, 3, 2)),
    ((3, 1, 0, 2, 4), (4, 1, 0, 3, 2), (2, 1, 0, 3, 4), (2, 1, 3, 4, 0), (4, 1, 2, 0, 3)),
    ((3, 4, 2, 1, 0), (4, 3, 0, 1, 2), (0, 1, 3, 4, 2), (3, 2, 1, 4, 0), (4, 3, 2, 0, 1)),
)
PARTED_START = ((0, 1, 2, 3, 4), (1, 0, 2, 3, 4), (0, 1, 2, 3, 4))


def slow_move(habits, stand, place):
    return tuple(touched(habit, layout, place) for habit, layout in zip(habits, stand))


def slow_after(habits, stand, word):
    for place in word:
        stand = slow_move(habits, stand, place)
    return stand


def words_up_to(places, most):
    return [word for count in range(most + 1) for word in itertools.product(range(places), repeat=count)]


def is_met(stand, name):
    return len({layout[name] for layout in stand}) == 1


def accesses(habits, stand, names, word):
    """Whether a word accesses a row of names, by the names that each touch accesses in all layouts."""
    left = list(names)
    for place in word:
        if left and all(layout[left[0]] == place for layout in stand):
            left.pop(0)
        stand = slow_move(habits, stand, place)
    return not left


def random_shelves(source, places, count):
    habits = tuple(helpers.random_habit(source, places) for _ in range(count))
    return habits, tuple(helpers.random_layout(source, places) for _ in range(count))


def with_few_words(source, places, count):
    """Random shelves, some of them with touches that move nothing, so that there are fewer stands."""
    habits, stand = random_shelves(source, places, count)
    still = tuple(range(places))
    calm = tuple(tuple(still if source.random() < 0.6 else moves for moves in habit) for habit in habits)
    return calm, stand


class ExampleTests(unittest.TestCase):
    def test_examples(self):
        self.assertEqual(stands(TWO, START), (((0, 1), (0, 1)), ((0, 1), (1, 0))))
        self.assertEqual(meeting(TWO, START, 1), (0,))
        self.assertEqual(names_met(TWO, START), (0, 1))
        word = access_row(TWO, START, (0, 1))
        self.assertEqual(len(word), 4)
        self.assertTrue(accesses(TWO, START, (0, 1), word))
        program = (("get", 0), ("say",))
        self.assertIs(can_carry(TWO, START, program), True)
        self.assertIs(carries_all(TWO, START, program, written_for_all(TWO, START, program)), True)
        self.assertIs(shows_access_row(TWO, START, (0, 1), (1, 0, 1, 1)), True)
        with self.assertRaises(NoWay):
            written_for_all(*APART, program)


class StandTests(unittest.TestCase):
    def test_against_all_short_words(self):
        source = random.Random(16)
        for _ in range(40):
            habits, stand = with_few_words(source, 2, source.randint(1, 3))
            words = words_up_to(2, 7)
            self.assertEqual(stands(habits, stand), tuple(sorted({slow_after(habits, stand, word) for word in words})))
            met = []
            for name in range(2):
                least = next((word for word in words if is_met(slow_after(habits, stand, word), name)), None)
                self.assertEqual(meeting(habits, stand, name), least)
                met += [name] if least is not None else []
            self.assertEqual(names_met(habits, stand), tuple(met))

    def test_meetings_of_three_places(self):
        source = random.Random(17)
        words = words_up_to(3, 6)
        for _ in range(25):
            habits, stand = with_few_words(source, 3, 2)
            for name in range(3):
                least = next((word for word in words if is_met(slow_after(habits, stand, word), name)), None)
                word = meeting(habits, stand, name)
                self.assertTrue(word == least or (least is None and len(word) > 6))
                self.assertEqual(name in names_met(habits, stand), word is not None)

    def test_one_shelf(self):
        self.assertEqual(stands((SWAP,), ((1, 0),)), (((0, 1),), ((1, 0),)))
        self.assertEqual(meeting((SWAP,), ((1, 0),), 0), ())
        self.assertEqual(names_met((SWAP,), ((1, 0),)), (0, 1))

    def test_stands_that_cannot_come_to_meet(self):
        self.assertIsNone(meeting(*APART, 0))
        self.assertEqual(names_met(*APART), ())
        turning = turning_habit(3)
        self.assertEqual(names_met((turning, turning), ((0, 1, 2), (1, 0, 2))), (2,))
        self.assertIsNone(meeting((turning, turning), ((0, 1, 2), (1, 0, 2)), 0))

    def test_the_least_of_the_shortest_meetings(self):
        habits = (((0, 1, 2), (1, 0, 2), (1, 0, 2)), ((0, 1, 2),) * 3)
        self.assertEqual(meeting(habits, ((0, 1, 2), (1, 0, 2)), 0), (1,))

    def test_20000_stands_and_more(self):
        habits = (front_habit(4), neighbour_habit(4), ((1, 2, 3, 0), (3, 0, 1, 2), (1, 0, 2, 3), (0, 1, 3, 2)))
        stand = ((0, 1, 2, 3), (1, 0, 2, 3), (0, 1, 3, 2))
        many = stands(habits, stand)
        self.assertEqual((len(many), len(set(many))), (13824, 13824))
        self.assertEqual(list(many), sorted(many))
        for function, rest in ((stands, ()), (meeting, (0,)), (names_met, ()), (access_row, ((),)),
                               (shows_access_row, ((), ())), (carries_all, ((("say",),), (("say",),))),
                               (can_carry, ((("say",),),)), (written_for_all, ((("say",),),))):
            helpers.assert_raises(self, "TooMany", (20000,), function, WIDE, WIDE_START, *rest)

    def test_too_many_comes_last(self):
        helpers.assert_raises(self, "BadNames", (), meeting, WIDE, WIDE_START, 5)
        helpers.assert_raises(self, "BadNames", (), access_row, WIDE, WIDE_START, (5,))
        helpers.assert_raises(self, "BadProgram", (0,), can_carry, WIDE, WIDE_START, (("get", 5),))
        helpers.assert_raises(self, "BadProgram", (None,), carries_all, WIDE, WIDE_START, (("get", 4),), ())
        helpers.assert_raises(self, "TooMany", (20000,), stands, PARTED, PARTED_START)
        helpers.assert_raises(self, "TooMany", (20000,), can_carry, PARTED, PARTED_START, (("get", 0),))
        helpers.assert_raises(self, "NoWay", (), written_for_all, PARTED, PARTED_START, (("get", 0),))
        helpers.assert_raises(self, "TooMany", (20000,), written_for_all, PARTED, PARTED_START, (("get", 1),))

    def test_wrong_arguments(self):
        rows = [helpers.bad_habit_rows(), helpers.bad_stands()]
        helpers.assert_names_wrong_arguments(self, stands, (TWO, START), rows)
        helpers.assert_names_wrong_arguments(self, names_met, (TWO, START), rows)
        helpers.assert_names_wrong_arguments(self, meeting, (TWO, START, 0), rows + [helpers.bad_names()])

    def test_numbers_of_habits(self):
        still = ((0, 1),)
        self.assertEqual([len(stands((STILL,) * count, still * count)) for count in (1, 2, 3)], [1, 1, 1])
        helpers.assert_raises(self, "BadHabits", (None,), stands, (STILL,) * 4, still * 4)
        helpers.assert_raises(self, "BadStand", (None,), stands, (STILL,) * 3, still * 2)
        helpers.assert_raises(self, "BadHabits", (2,), stands, (STILL, SWAP, turning_habit(3)), still * 3)
        helpers.assert_raises(self, "BadStand", (1,), stands, (STILL, SWAP), ((0, 1), (0, 1, 2)))


class AccessTests(unittest.TestCase):
    def test_against_all_short_words(self):
        source = random.Random(18)
        words = words_up_to(2, 8)
        for _ in range(60):
            habits, stand = with_few_words(source, 2, source.randint(1, 3))
            names = tuple(source.randrange(2) for _ in range(source.randint(0, 4)))
            word = access_row(habits, stand, names)
            right = [other for other in words if accesses(habits, stand, names, other)]
            if right:
                self.assertEqual(len(word), len(right[0]))
                self.assertTrue(accesses(habits, stand, names, word))
            else:
                self.assertTrue(word is None or (len(word) > 8 and accesses(habits, stand, names, word)))
            for other in source.sample(words, 40) + right[:3] + [word]:
                is_right = other == word if word is None or other is None else (
                    len(other) == len(word) and accesses(habits, stand, names, other))
                self.assertIs(shows_access_row(habits, stand, names, other), is_right)

    def test_no_name(self):
        self.assertEqual(access_row(TWO, START, ()), ())
        self.assertEqual(access_row(*APART, ()), ())
        self.assertIs(shows_access_row(TWO, START, (), ()), True)
        self.assertIs(shows_access_row(TWO, START, (), (0,)), False)

    def test_twelve_names(self):
        names = (0, 1, 2) * 4
        habits = (front_habit(3), neighbour_habit(3))
        word = access_row(habits, ((0, 1, 2), (2, 0, 1)), names)
        self.assertTrue(accesses(habits, ((0, 1, 2), (2, 0, 1)), names, word))
        self.assertIs(shows_access_row(habits, ((0, 1, 2), (2, 0, 1)), names, word), True)
        helpers.assert_raises(self, "BadNames", (), access_row, habits, ((0, 1, 2), (2, 0, 1)), names + (0,))

    def test_one_shelf_needs_no_blind_touch(self):
        self.assertEqual(access_row((SWAP,), ((0, 1),), (0, 0, 1, 1)), (0, 1, 1, 0))

    def test_none_without_a_word(self):
        self.assertIsNone(access_row(*APART, (0,)))
        self.assertIs(shows_access_row(*APART, (0,), None), True)
        self.assertIs(shows_access_row(*APART, (0,), (0,)), False)
        self.assertIs(shows_access_row(TWO, START, (0,), None), False)

    def test_a_word_has_no_more_than_400_places(self):
        self.assertEqual(len(stands(ROUND, ROUND_START)), 60)
        names = (0, 1, 2) * 4
        word = access_row(ROUND, ROUND_START, names[:10])
        self.assertEqual(len(word), 10 + 3 * 120 + 1)
        self.assertTrue(accesses(ROUND, ROUND_START, names[:10], word))
        self.assertIs(shows_access_row(ROUND, ROUND_START, names[:10], word), True)
        earlier = slow_after(ROUND, ROUND_START, (0,) * 31)
        self.assertEqual(len(access_row(ROUND, earlier, names[:10])), 400)
        self.assertIsNone(access_row(ROUND, slow_after(ROUND, ROUND_START, (0,) * 30), names[:10]))
        longer = word + (0,) * 52 + (2,)
        self.assertTrue(accesses(ROUND, ROUND_START, names[:11], longer))
        self.assertIsNone(access_row(ROUND, ROUND_START, names[:11]))
        self.assertIs(shows_access_row(ROUND, ROUND_START, names[:11], longer), False)
        self.assertIs(shows_access_row(ROUND, ROUND_START, names[:11], None), True)

    def test_any_value_may_be_shown(self):
        for value, _, _ in helpers.bad_words():
            is_right = value is None
            self.assertIs(shows_access_row(TWO, START, (0, 1), value), False)
            self.assertIs(shows_access_row(*APART, (0, 1), value), is_right)
        self.assertIs(shows_access_row(TWO, START, (0, 1), [1, 0, 1, 1]), False)
        self.assertIs(shows_access_row(TWO, START, (0, 1), (True, 0, 1, 1)), False)

    def test_wrong_arguments(self):
        rows = [helpers.bad_habit_rows(), helpers.bad_stands(), helpers.bad_name_rows(12)]
        helpers.assert_names_wrong_arguments(self, access_row, (TWO, START, (0, 1)), rows)
        helpers.assert_names_wrong_arguments(self, shows_access_row, (TWO, START, (0, 1), None), rows + [[]])


class CarryTests(unittest.TestCase):
    def test_carried_from_each_layout(self):
        program = (("get", 0), ("say",))
        restless = (("touch", 0), ("get", 0), ("say",))
        self.assertIs(carries_all(TWO, START, program, restless), True)
        self.assertIs(carries_all(TWO, ((0, 1), (0, 1)), program, restless), False)
        self.assertIs(carries_all(TWO, ((0, 1), (0, 1)), program, program), True)

    def test_what_is_written_is_carried_on_each(self):
        source = random.Random(19)
        met = {True: 0, False: 0}
        for _ in range(250):
            places = source.choice((2, 3, 3, 4))
            habits, stand = with_few_words(source, places, source.choice((1, 2, 3, 3)))
            program = helpers.random_program(source, places, 9)
            is_possible = all(name in names_met(habits, stand) for name in used(places, program))
            self.assertIs(can_carry(habits, stand, program), is_possible)
            met[is_possible] += 1
            if not is_possible:
                helpers.assert_raises(self, "NoWay", (), written_for_all, habits, stand, program)
                continue
            restless = written_for_all(habits, stand, program)
            self.assertIs(carries_all(habits, stand, program, restless), True)
            for habit, layout in zip(habits, stand):
                self.assertTrue(carries(habit, layout, program, restless))
                still = run_still(places, program, (1, 0, -2), 40)
                self.assertTrue(helpers.said_alike(still, run_restless(habit, restless, (1, 0, -2), 20000)))
            wrong = (("say",),) + restless
            self.assertIs(carries_all(habits, stand, program, wrong), all(
                carries(habit, layout, program, wrong) for habit, layout in zip(habits, stand)))
        self.assertGreater(min(met.values()), 30)

    def test_names_that_are_not_used_do_not_matter(self):
        self.assertIs(can_carry(*APART, (("say",),)), True)
        self.assertIs(can_carry(*APART, (("stop",), ("get", 0))), True)
        self.assertIs(can_carry(*APART, (("stop",),)), True)
        self.assertIs(can_carry(*APART, (("zero", 1), ("get", 0))), False)
        self.assertTrue(carries_all(*APART, (("go", 0),), written_for_all(*APART, (("go", 0),))))

    def test_loops_and_jumps(self):
        programs = [
            (("get", 0), ("go", 0)), (("get", 0), ("zero", 0), ("set", 1), ("go", 1)), (("zero", 3), ("get", 1), ("go", 0)),
            (("go", 2), ("go", 3), ("go", 1)), (("zero", 1), ("minus", 1)), (("go", 1),),
        ]
        for program in programs:
            self.assertIs(carries_all(TWO, START, program, written_for_all(TWO, START, program)), True)

    def test_as_long_as_may_be(self):
        program = (("get", 0), ("get", 1), ("get", 2)) * 33
        longest = program + (("say",),) * (4000 - len(written_for_all(ROUND, ROUND_START, program)))
        restless = written_for_all(ROUND, ROUND_START, longest)
        self.assertEqual(len(restless), 4000)
        self.assertIs(carries_all(ROUND, ROUND_START, longest, restless), True)
        helpers.assert_raises(self, "TooMany", (4000,), written_for_all, ROUND, ROUND_START, longest + (("say",),))

    def test_too_long(self):
        program = (("get", 0), ("get", 1), ("get", 2)) * 20
        self.assertIs(can_carry(ROUND, ROUND_START, program + program), True)
        self.assertIs(carries_all(ROUND, ROUND_START, program, written_for_all(ROUND, ROUND_START, program)), True)
        helpers.assert_raises(self, "TooMany", (4000,), written_for_all, ROUND, ROUND_START, program + program)

    def test_wrong_arguments(self):
        rows = [helpers.bad_habit_rows(), helpers.bad_stands(), helpers.bad_stills()]
        good = (TWO, START, (("get", 0), ("say",)))
        for function in (can_carry, written_for_all):
            helpers.assert_names_wrong_arguments(self, function, good, rows)
        rows.append(helpers.bad_restlesses())
        helpers.assert_names_wrong_arguments(self, carries_all, good + ((("touch", 0), ("say",)),), rows)


if __name__ == "__main__":
    unittest.main()
