"""Copies: points 71, 72 and 73, and what point 1 says of their arguments."""

import itertools
import random
import unittest

from restlesshelf.copies import copies_met, copies_written, least_copies, shows_written, written_with
from restlesshelf.programs import run_restless, run_still, used
from restlesshelf.rows import can_carry, meeting, stands, written_for_all
from restlesshelf.shelves import front_habit, neighbour_habit, order, turning_habit
from tests import helpers
from tests.test_rows import (
    APART,
    PARTED,
    PARTED_START,
    ROUND,
    ROUND_START,
    START,
    STILL,
    SWAP,
    TWO,
    WIDE,
    WIDE_START,
    random_shelves,
    slow_after,
    slow_move,
    with_few_words,
)

GET, SET = (("get", 0), ("say",)), (("ask",), ("set", 0))
BOTH = (("ask",), ("zero", 5), ("set", 0), ("get", 0), ("say",), ("go", 0))

# Sixty even permutations are made by the first two touches on the first shelf, and by the next two on the second one.
STAY, TURN, THREE = (0, 1, 2, 3, 4), (1, 2, 3, 4, 0), (0, 1, 3, 4, 2)
SIXTY = ((TURN, THREE, STAY, STAY, STAY), (STAY, STAY, TURN, THREE, STAY))
BELOW = SIXTY + ((STAY,) * 4 + (TURN,),)
ABOVE = SIXTY + ((STAY,) * 4 + ((1, 0, 3, 4, 2),),)
SOME_STAND = ((0, 1, 2, 3, 4), (1, 2, 0, 4, 3), (4, 3, 2, 0, 1))

# 19872 and 20520 stands with what is still to be written.
JUST_BELOW = (
    (((1, 4, 2, 3, 0), STAY, STAY, STAY, (1, 0, 4, 3, 2)), (STAY, STAY, STAY, (1, 0, 3, 2, 4), STAY)),
    ((1, 0, 3, 4, 2), (2, 0, 4, 3, 1)), (0, 1, 2, 3, 4),
)
JUST_ABOVE = (
    (((3, 2, 1, 0), (3, 0, 2, 1), (0, 1, 2, 3), (3, 2, 1, 0)), ((0, 1, 2, 3),) * 3 + ((3, 1, 2, 0),),
     ((0, 1, 2, 3),) * 3 + ((0, 3, 2, 1),)),
    ((2, 0, 1, 3), (0, 3, 1, 2), (0, 3, 2, 1)), (0, 1, 2, 3),
)


def places_met(stand, copies):
    """The places at which one of the copies stands in every layout."""
    rows = [{layout[copy] for copy in copies} for layout in stand]
    return sorted(set.intersection(*rows))


def behind_deed(habits, state, deed):
    """A stand, and the pairs of a shelf and a copy that are not set yet, behind a deed; None if it may not be there."""
    stand, left, copies = state
    word, place = deed
    if word == "set":
        books = [layout.index(place) for layout in stand]
        if not all(book in copies for book in books):
            return None
        left = left - {(shelf, book) for shelf, book in enumerate(books)}
    return (slow_move(habits, stand, place), left, copies)


def at_first(habits, stand, copies):
    return (stand, frozenset(itertools.product(range(len(habits)), copies)), copies)


def writes_all(habits, stand, copies, row):
    """Whether a row of deeds sets each copy on each shelf, deed by deed."""
    state = at_first(habits, stand, copies)
    for deed in row:
        state = behind_deed(habits, state, deed)
        if state is None:
            return False
    return not state[1]


def slow_search(habits, stand, copies):
    """How few deeds write copies, None if none do, and at how many stands something is still to be written."""
    places = range(len(habits[0]))
    start = at_first(habits, stand, copies)
    found, level, least = {start}, [start], None
    depth = 0
    while level:
        depth += 1
        further = []
        for state in level:
            for deed in itertools.product(("touch", "set"), places):
                new = behind_deed(habits, state, deed)
                if new is None or new in found:
                    continue
                if new[1]:
                    found.add(new)
                    further.append(new)
                elif least is None:
                    least = depth
        level = further
    return least, len(found)


def shelves_of_few(source):
    """Shelves on which names are often met with copies alone, and some copies."""
    places, count = source.choice(((2, 1), (2, 2), (2, 3), (3, 1), (3, 2), (3, 3), (4, 1), (4, 2), (5, 1)))
    habits, stand = source.choice((random_shelves, with_few_words, with_few_words))(source, places, count)
    if source.random() < 0.4:
        habits = (habits[0],) * count
    return habits, stand, tuple(sorted(source.sample(range(places), source.randint(1, places))))


class ExampleTests(unittest.TestCase):
    def test_examples(self):
        self.assertIsNone(copies_met(*APART, (0,)))
        self.assertEqual(copies_met(*APART, (0, 1)), ((), 0))
        self.assertEqual(copies_written(*APART, (0, 1)), (("set", 0), ("set", 1)))
        self.assertEqual(least_copies(*APART, (("get", 0),)), ((0, (0, 1)),))


class MeetingTests(unittest.TestCase):
    def test_the_least_of_the_shortest_words(self):
        source = random.Random(251)
        ends = {True: 0, False: 0}
        for _ in range(250):
            habits, stand, copies = shelves_of_few(source)
            places = len(habits[0])
            told = copies_met(habits, stand, copies)
            ends[told is None] += 1
            if told is None:
                self.assertFalse(any(places_met(other, copies) for other in stands(habits, stand)))
                continue
            word, place = told
            self.assertEqual(place, places_met(slow_after(habits, stand, word), copies)[0])
            if places ** len(word) < 2000:
                for count in range(len(word) + 1):
                    for other in itertools.product(range(places), repeat=count):
                        if (count, other) < (len(word), word):
                            self.assertFalse(places_met(slow_after(habits, stand, other), copies))
        self.assertGreater(min(ends.values()), 20)

    def test_one_copy_is_met_as_its_name_is(self):
        source = random.Random(252)
        for _ in range(100):
            habits, stand, _ = shelves_of_few(source)
            for name in range(len(habits[0])):
                told = copies_met(habits, stand, (name,))
                self.assertEqual(told and told[0], meeting(habits, stand, name))

    def test_all_books(self):
        for habits, stand in ((TWO, START), APART, (ROUND, ROUND_START)):
            self.assertEqual(copies_met(habits, stand, tuple(range(len(habits[0])))), ((), 0))

    def test_by_hand(self):
        # On the second shelf books 0 and 1 change places, so that one of them is at place 1 on both.
        habits = (((0, 1, 2),) * 3, ((0, 1, 2), (0, 1, 2), (2, 1, 0)))
        self.assertEqual(copies_met(habits, ((2, 1, 0), (0, 2, 1)), (0, 1)), ((), 1 + 1))
        self.assertEqual(copies_met(habits, ((1, 2, 0), (0, 2, 1)), (0,)), None)
        self.assertEqual(copies_met(habits, ((2, 1, 0), (0, 2, 1)), (0,)), ((2,), 2))
        self.assertEqual(copies_met(habits, ((0, 1, 2), (2, 0, 1)), (0, 1)), ((), 0))

    def test_20000_stands_and_more(self):
        self.assertEqual([order(habit) for habit in ABOVE], [60, 60, 6])
        self.assertEqual(len(stands(BELOW, SOME_STAND)), 18000)
        self.assertEqual(len(places_met(SOME_STAND, (0,))), 0)
        word, place = copies_met(BELOW, SOME_STAND, (0,))
        self.assertEqual(places_met(slow_after(BELOW, SOME_STAND, word), (0,)), [place])
        for habits, stand in ((ABOVE, SOME_STAND), (WIDE, WIDE_START)):
            helpers.assert_raises(self, "TooMany", (20000,), copies_met, habits, stand, (0,))
            helpers.assert_raises(self, "TooMany", (20000,), copies_met, habits, stand, (0, 1, 2, 3, 4))


class WritingTests(unittest.TestCase):
    def assert_is_shortest(self, habits, stand, copies, most=6000):
        least, many = slow_search(habits, stand, copies)
        self.assertLessEqual(many, most)
        row = copies_written(habits, stand, copies)
        if least is None:
            self.assertIsNone(row)
        else:
            self.assertEqual(len(row), least)
            self.assertTrue(writes_all(habits, stand, copies, row))
            self.assertIs(shows_written(habits, stand, copies, row), True)

    def test_against_a_slow_search(self):
        source = random.Random(253)
        done = 0
        while done < 120:
            habits, stand, copies = shelves_of_few(source)
            if len(stands(habits, stand)) * 2 ** (len(habits) * len(copies)) <= 6000:
                self.assert_is_shortest(habits, stand, copies)
                done += 1

    def test_by_hand(self):
        self.assertTrue(writes_all(TWO, START, (0, 1), (("set", 0), ("touch", 0), ("set", 1))))
        self.assertEqual(len(copies_written(TWO, START, (0, 1))), 3)
        self.assertIsNone(copies_written(*APART, (1,)))
        self.assertEqual(copies_written((STILL,), ((1, 0),), (0,)), (("set", 1),))
        # Book 0 can be met, but on the first shelf book 1 is never where one of them is on the second one.
        still = (tuple(range(3)),) * 3
        self.assertEqual(copies_met((still, still), ((0, 1, 2), (0, 2, 1)), (0, 1)), ((), 0))
        self.assertIsNone(copies_written((still, still), ((0, 1, 2), (0, 2, 1)), (0, 1)))
        self.assertEqual(copies_written((still, still), ((0, 1, 2), (0, 2, 1)), (0, 1, 2)), tuple(
            ("set", place) for place in range(3)))

    def test_a_set_moves_what_it_writes(self):
        # The place is read ahead of its touch: both books are set at place 0.
        row = copies_written((SWAP,), ((0, 1),), (0, 1))
        self.assertEqual(row, (("set", 0), ("set", 0)))
        self.assertIs(shows_written((SWAP,), ((0, 1),), (0, 1), (("set", 0), ("set", 1))), False)

    def test_stands_with_what_is_still_to_be_written(self):
        self.assert_is_shortest(*JUST_BELOW, 20000)
        self.assertLess(len(stands(*JUST_ABOVE[:2])), 100)
        helpers.assert_raises(self, "TooMany", (20000,), copies_written, *JUST_ABOVE)
        helpers.assert_raises(self, "TooMany", (20000,), copies_written, ABOVE, SOME_STAND, (0,))
        # With a single copy something is still to be written at each stand but once.
        row = copies_written(BELOW, SOME_STAND, (0,))
        self.assertTrue(writes_all(BELOW, SOME_STAND, (0,), row))
        self.assertEqual(len(row), len(copies_met(BELOW, SOME_STAND, (0,))[0]) + 1)


class ShownTests(unittest.TestCase):
    def test_random_rows(self):
        source = random.Random(254)
        told = {True: 0, False: 0}
        for _ in range(600):
            habits, stand, copies = shelves_of_few(source)
            row, state = [], at_first(habits, stand, copies)
            for _ in range(source.choice((1, 2, 5, 20))):
                places = range(len(habits[0]))
                allowed = [place for place in places if behind_deed(habits, state, ("set", place)) is not None]
                if allowed and source.random() < 0.7:
                    row.append(("set", source.choice(allowed)))
                else:
                    row.append((source.choice(("touch",) * 9 + ("set",)), source.choice(places)))
                state = behind_deed(habits, state, row[-1]) or state
            writes = writes_all(habits, stand, copies, row)
            told[writes] += 1
            self.assertIs(shows_written(habits, stand, copies, tuple(row)), writes)
        self.assertGreater(min(told.values()), 100)

    def test_up_to_400_deeds(self):
        row = (("set", 0), ("set", 1))
        for count in (0, 1, 2, 50, 398):
            self.assertIs(shows_written(*APART, (0, 1), (("touch", 1),) * count + row), True)
            self.assertIs(shows_written(*APART, (0, 1), row + (("set", 0),) * count), True)
        self.assertIs(shows_written(*APART, (0, 1), (("touch", 1),) * 399 + row), False)
        self.assertIs(shows_written(*APART, (0, 1), row + (("set", 0),) * 399), False)
        self.assertIs(shows_written(*APART, (0, 1), (("touch", 1),) * 399 + (("set", 0),)), False)

    def test_a_set_that_may_not_be_there(self):
        # The last set comes too late to matter, but there is none of the copies at its place on one shelf.
        still = (tuple(range(3)),) * 3
        habits, stand = (still, still), ((0, 1, 2), (0, 2, 1))
        self.assertIs(shows_written(habits, stand, (0,), (("set", 0),)), True)
        self.assertIs(shows_written(habits, stand, (0,), (("set", 0), ("set", 1))), False)
        self.assertIs(shows_written(habits, stand, (0,), (("set", 1), ("set", 0))), False)

    def test_any_value(self):
        good = (("set", 0), ("set", 1))
        self.assertIs(shows_written(*APART, (0, 1), good), True)
        values = list(helpers.ODD) + [((word, 0),) + good for word in ("put", "get", "TOUCH", "", None, 0, ("touch",), [])]
        values += [
            (), 0, "set", list(good), (["set", 0], ("set", 1)), (("set", False), ("set", True)), (("set", 0), ("set", True)),
            (("set", 0), ("set", 2)), (("set", 0), ("set", -1)), (("set", 0), ("set", "1")), (("set", 0), ("set",)),
            (("set", 0), ("set", 1, 1)), (("set", 0), "set"), (("set", 0), None), good + (None,), (("put", 0), ("set", 1)),
            (("set", 0), ("get", 1)), (("set", 0), (["set"], 1)), ((None, 0), ("set", 1)), (("set", 0),), {0: good}, (good,),
        ]
        for value in values:
            self.assertIs(shows_written(*APART, (0, 1), value), False, value)
            # No error beyond the bounds of the others, either: any value is answered.
            self.assertIs(shows_written(WIDE, WIDE_START, (0,), value), False)
        self.assertIs(shows_written(*APART, (0,), None), False)
        row = tuple(("set", place) for place in range(5))
        self.assertIs(shows_written(WIDE, WIDE_START, (0, 1, 2, 3, 4), row), writes_all(WIDE, WIDE_START, (0, 1, 2, 3, 4), row))


def slow_serves(habits, stand, program, sets):
    """Whether copies serve a program whose instructions are all reached."""
    for name, copies in sets:
        words = {word for word, *rest in program if rest == [name]}
        if words & {"get", "plus", "minus"} and copies_met(habits, stand, copies) is None:
            return False
        if "set" in words and slow_search(habits, stand, copies)[0] is None:
            return False
    return True


def all_sets(names, places):
    """All disjoint copies for names."""
    rows = [copies for count in range(1, places + 1) for copies in itertools.combinations(range(places), count)]
    for choice in itertools.product(rows, repeat=len(names)):
        books = [book for copies in choice for book in copies]
        if len(books) == len(set(books)):
            yield tuple(zip(names, choice))


def books_in(sets):
    return sum(len(copies) for _, copies in sets)


class LeastCopiesTests(unittest.TestCase):
    def test_against_all_copies(self):
        source = random.Random(255)
        sizes = {}
        done = 0
        while done < 100:
            habits, stand, _ = shelves_of_few(source)
            places = len(habits[0])
            if places > 3 or len(stands(habits, stand)) > 40:
                continue
            done += 1
            words = source.sample(("get", "set", "plus", "minus", "set"), source.randint(1, 3))
            program = tuple((word, source.randrange(places)) for word in words)
            names = used(places, program)
            serving = [sets for sets in all_sets(names, places) if slow_serves(habits, stand, program, sets)]
            least = min(serving, key=lambda sets: (books_in(sets), sets), default=None)
            self.assertEqual(least_copies(habits, stand, program), least)
            extra = least and books_in(least) - len(names)
            sizes[extra] = sizes.get(extra, 0) + 1
            if can_carry(habits, stand, program):
                self.assertEqual(extra, 0)
        self.assertGreater(min(sizes.get(extra, 0) for extra in (None, 0, 1)), 5)

    def test_what_is_set_or_read_alone(self):
        # Books 0 and 1 are met together where they cannot be written.
        still = (tuple(range(3)),) * 3
        habits, stand = (still, still), ((1, 2, 0), (1, 0, 2))
        self.assertEqual(least_copies(habits, stand, (("get", 1),)), ((1, (0,)),))
        self.assertEqual(least_copies(habits, stand, (("get", 1), ("plus", 2))), ((1, (0,)), (2, (1, 2))))
        self.assertEqual(least_copies(habits, stand, (("get", 2), ("set", 0))), ((0, (0,)), (2, (1, 2))))
        self.assertIsNone(least_copies(habits, stand, (("get", 0), ("set", 1), ("minus", 2))))
        turned = ((1, 2, 0), (0, 1, 2))
        self.assertEqual(least_copies(habits, turned, (("minus", 0),)), ((0, (0, 1)),))
        self.assertEqual(least_copies(habits, turned, (("set", 0),)), ((0, (0, 1, 2)),))
        self.assertEqual(least_copies(habits, turned, (("set", 0), ("get", 0))), ((0, (0, 1, 2)),))

    def test_edges(self):
        self.assertEqual(least_copies(*APART, (("say",),)), ())
        self.assertEqual(least_copies(*APART, (("stop",), ("get", 0))), ())
        self.assertIsNone(least_copies(*APART, (("get", 0), ("get", 1))))
        self.assertEqual(least_copies(TWO, START, (("get", 1), ("set", 0))), ((0, (0,)), (1, (1,))))
        five = tuple(("set", name) for name in range(5))
        self.assertEqual(least_copies((front_habit(5),), ((3, 4, 1, 0, 2),), five), tuple((at, (at,)) for at in range(5)))
        self.assertEqual(least_copies(BELOW, SOME_STAND, (("set", 3),)), ((3, (0,)),))

    def test_too_many(self):
        for program in (GET, SET, (("say",),)):
            helpers.assert_raises(self, "TooMany", (20000,), least_copies, ABOVE, SOME_STAND, program)
            helpers.assert_raises(self, "TooMany", (20000,), least_copies, WIDE, WIDE_START, program)


class WrittenTests(unittest.TestCase):
    def assert_says_the_same(self, habits, program, restless, source):
        places = len(habits[0])
        for _ in range(6):
            inputs = tuple(source.randint(-2, 2) for _ in range(source.randint(0, 6)))
            still = run_still(places, program, inputs, 60)
            for habit in habits:
                self.assertTrue(helpers.said_alike(still, run_restless(habit, restless, inputs, 5000)))

    def test_many_programs(self):
        source = random.Random(256)
        sizes = {}
        for _ in range(400):
            habits, stand, _ = shelves_of_few(source)
            places = len(habits[0])
            program = helpers.random_program(source, places, 10)
            if source.random() < 0.6:
                name = source.randrange(places)
                program = tuple((row[0], name) if row[0] in ("get", "set", "plus", "minus") else row for row in program)
            sets = least_copies(habits, stand, program)
            if sets is None:
                self.assertFalse(can_carry(habits, stand, program))
                continue
            restless = written_with(habits, stand, program, sets)
            self.assert_says_the_same(habits, program, restless, source)
            extra = books_in(sets) - len(sets)
            sizes[extra] = sizes.get(extra, 0) + 1
        self.assertGreater(min(sizes.get(extra, 0) for extra in (0, 1, 2)), 10)

    def test_any_copies_that_serve(self):
        source = random.Random(257)
        done = {True: 0, False: 0}
        while min(done.values()) < 50:
            habits, stand, _ = shelves_of_few(source)
            places = len(habits[0])
            if places > 3 or len(stands(habits, stand)) > 10:
                continue
            words = [source.choice(("get", "set", "plus", "minus")) for _ in range(3)]
            program = (("ask",), ("set", 0), ("ask",)) + tuple((word, source.randrange(places)) for word in words)
            program += (("say",), ("zero", 0))
            options = list(all_sets(used(places, program), places))
            if not options:
                continue
            sets = source.choice(options)
            serves = slow_serves(habits, stand, program, sets)
            done[serves] += 1
            if serves:
                restless = written_with(habits, stand, program, sets)
                self.assert_says_the_same(habits, program, restless, source)
            else:
                helpers.assert_raises(self, "NoWay", (), written_with, habits, stand, program, sets)

    def test_sums_held_by_copies(self):
        sums = (("ask",), ("zero", 5), ("plus", 0), ("set", 0), ("go", 0), ("get", 0), ("say",), ("minus", 0), ("say",))
        restless = written_with(*APART, sums, ((0, (0, 1)),))
        self.assertEqual(run_restless(STILL, restless, (3, 4, 5), 1000), ((12, 0), "stopped"))
        # On the shelves there is no program that carries it.
        self.assertIs(can_carry(*APART, sums), False)
        helpers.assert_raises(self, "NoWay", (), written_for_all, *APART, sums)

    def test_edges(self):
        source = random.Random(258)
        self.assertEqual(run_restless(STILL, written_with(*APART, (("say",),), ()), (), 9), ((0,), "stopped"))
        self.assertEqual(run_restless(STILL, written_with(*APART, (("go", 0),), ()), (), 9), ((), "running"))
        for program in (GET, SET, BOTH, (("get", 1), ("stop",), ("set", 0)), (("set", 1), ("say",)), (("zero", 0),)):
            sets = least_copies(*APART, program)
            self.assert_says_the_same(APART[0], program, written_with(*APART, program, sets), source)
        # Copies need not hold the book that is called by the name, and may be more than are needed.
        for sets in (((0, (0,)),), ((0, (1,)),), ((0, (0, 1)),)):
            self.assert_says_the_same(TWO, BOTH, written_with(TWO, START, BOTH, sets), source)

    def test_only_set_or_only_read(self):
        still = (tuple(range(3)),) * 3
        habits, stand = (still, still), ((1, 2, 0), (0, 1, 2))
        helpers.assert_raises(self, "NoWay", (), written_with, habits, stand, SET, ((0, (0, 1)),))
        self.assertEqual(run_restless(still, written_with(habits, stand, GET, ((0, (0, 1)),)), (), 9), ((0,), "stopped"))
        self.assertIsNotNone(copies_met(habits, stand, (0, 1)))
        # On this shelf the one copy is written, or read, at one place alone.
        program = (("ask",), ("set", 0), ("set", 2), ("say",))
        restless = written_with((still,), (stand[0],), program, ((0, (2,)), (2, (0, 1))))
        self.assertEqual(run_restless(still, restless, (5,), 99), ((5,), "stopped"))

    def test_programs_of_200(self):
        source = random.Random(259)
        turning = turning_habit(3)
        habits, stand = (turning, turning), ((0, 1, 2), (1, 0, 2))
        program = BOTH[:5] * 39 + (("ask",), ("zero", 0), ("plus", 0), ("say",), ("go", 0))
        sets = least_copies(habits, stand, program)
        self.assert_says_the_same(habits, program, written_with(habits, stand, program, sets), source)

    def test_too_long(self):
        program = (("get", 0), ("get", 1), ("get", 2)) * 60
        sets = ((0, (0,)), (1, (1,)), (2, (2,)))
        short = program[:60]
        self.assert_says_the_same(ROUND, short, written_with(ROUND, ROUND_START, short, sets), random.Random(260))
        helpers.assert_raises(self, "TooMany", (4000,), written_with, ROUND, ROUND_START, program, sets)

    def test_too_many_stands(self):
        for sets in (((0, (0,)),), ((0, (1, 2)),)):
            helpers.assert_raises(self, "TooMany", (20000,), written_with, ABOVE, SOME_STAND, GET, sets)
            helpers.assert_raises(self, "TooMany", (20000,), written_with, ABOVE, SOME_STAND, SET, sets)
        helpers.assert_raises(self, "TooMany", (20000,), written_with, WIDE, WIDE_START, (("say",),), ())
        habits, stand, copies = JUST_ABOVE
        helpers.assert_raises(self, "TooMany", (20000,), written_with, habits, stand, SET, ((0, copies),))
        # What is only read is never still to be written.
        restless = written_with(habits, stand, GET, ((0, copies),))
        self.assertEqual(run_restless(habits[2], restless, (), 99), ((0,), "stopped"))
        habits, stand, copies = JUST_BELOW
        self.assert_says_the_same(habits, BOTH, written_with(habits, stand, BOTH, ((0, copies),)), random.Random(261))

    def test_too_many_comes_last(self):
        # Name 0 keeps to unlike places on two of these shelves.
        helpers.assert_raises(self, "NoWay", (), written_with, PARTED, PARTED_START, GET, ((0, (0,)),))
        helpers.assert_raises(self, "NoWay", (), written_with, PARTED, PARTED_START, SET, ((0, (0,)),))
        helpers.assert_raises(self, "TooMany", (20000,), written_with, PARTED, PARTED_START, GET, ((0, (1,)),))
        helpers.assert_raises(self, "BadCopies", (), written_with, PARTED, PARTED_START, GET, ((0, (5,)),))
        helpers.assert_raises(self, "BadCopies", (), copies_met, WIDE, WIDE_START, (5,))
        helpers.assert_raises(self, "BadCopies", (), copies_written, WIDE, WIDE_START, ())
        helpers.assert_raises(self, "BadProgram", (0,), least_copies, WIDE, WIDE_START, (("get", 5),))


def bad_copies():
    """Values that are no ascending tuple of at least one of two books."""
    return [(value, "BadCopies", ()) for value, _, _ in helpers.bad_lots()]


def bad_sets():
    """Values that are no copies for the names 0 and 1 on a shelf of two places."""
    rows = [((0, (0,)),), ((0, (0,)), (1, (1,)), (1, (1,))), ((1, (1,)), (0, (0,))), ((0, (0,)), (0, (1,))), (0, 1)]
    rows += [((0, (0, 1)), (1, (1,))), ((0, (0,)), (1, (0,))), ((False, (0,)), (True, (1,))), ((0, (0,)), (1, (1,), 1))]
    rows += [[(0, (0,)), (1, (1,))], ([0, (0,)], (1, (1,))), ((0, [0]), (1, (1,))), ((0, (0,)), ("1", (1,))), ((0,), (1,))]
    rows += [((0, value), (1, (1,))) for value, _, _ in bad_copies()] + [((0, (0,)), (1, (2,))), ((0, (0,)), (2, (1,)))]
    rows += [((0, (0,)), None), {0: (0,), 1: (1,)}, ((0, (0,)), (None, (1,))), 0]
    return helpers.awaited("BadCopies", (), list(helpers.ODD) + [()] + rows)


class WrongArgumentTests(unittest.TestCase):
    def test_wrong_arguments(self):
        rows = [helpers.bad_habit_rows(), helpers.bad_stands(), bad_copies()]
        for function in (copies_met, copies_written):
            helpers.assert_names_wrong_arguments(self, function, (TWO, START, (0, 1)), rows)
        helpers.assert_names_wrong_arguments(self, shows_written, (TWO, START, (0, 1), None), rows + [[]])
        rows[2] = helpers.bad_stills()
        helpers.assert_names_wrong_arguments(self, least_copies, (TWO, START, GET), rows)
        program, sets = (("get", 0), ("set", 1)), ((0, (0,)), (1, (1,)))
        helpers.assert_names_wrong_arguments(self, written_with, (TWO, START, program, sets), rows + [bad_sets()])

    def test_copies_for_the_used_names_alone(self):
        for program, names in (((("say",),), ()), ((("get", 1),), (1,)), ((("stop",), ("get", 1)), ())):
            for sets in ((), ((0, (0,)),), ((1, (1,)),), ((0, (0,)), (1, (1,)))):
                if tuple(name for name, _ in sets) == names:
                    written_with(TWO, START, program, sets)
                else:
                    helpers.assert_raises(self, "BadCopies", (), written_with, TWO, START, program, sets)

    def test_numbers_of_habits(self):
        three = (neighbour_habit(3), front_habit(3), turning_habit(3))
        stand = ((0, 1, 2), (1, 2, 0), (2, 1, 0))
        for count in (1, 2, 3):
            self.assertIsNotNone(copies_met(three[:count], stand[:count], (0, 1, 2)))
        four = three + three[:1]
        for function, value in ((copies_met, (0,)), (copies_written, (0,)), (least_copies, GET)):
            helpers.assert_raises(self, "BadHabits", (None,), function, four, stand + stand[:1], value)
            helpers.assert_raises(self, "BadHabits", (None,), function, (), (), value)


if __name__ == "__main__":
    unittest.main()
