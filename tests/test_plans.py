"""Plans and written programs: point 8, and what point 1 says of their arguments."""

import itertools
import random
import unittest
from unittest import mock

from restlesshelf.carrying import carries
from restlesshelf.cheaper import has_plan_below
from restlesshelf.errors import BadPlan, TooMany
from restlesshelf.grounds import Ground
from restlesshelf.planning import Search, joins_of
from restlesshelf.plans import least_plan, price, shows_least_plan, written
from restlesshelf.programs import flow, reached, run_restless, run_still
from restlesshelf.shelves import can_come, distance, front_habit, touched, turning_habit
from tests import helpers

SWAP = ((1, 0), (1, 0))
LOOP = (("get", 0), ("go", 0))
ACCESSES = ("get", "set", "plus", "minus")


def slow_price(habit, layout, program, plan):
    """The price of a plan, by distances."""
    behind = {}
    for at in reached(len(habit), program):
        is_access = program[at][0] in ACCESSES
        behind[at] = touched(habit, plan[at], plan[at][program[at][1]]) if is_access else plan[at]
    ways = [distance(habit, layout, plan[0])]
    ways += [distance(habit, behind[at], plan[goal]) for at, goal in flow(len(habit), program) if goal != len(program)]
    return sum(ways)


def all_plans(habit, layout, program):
    at_all = reached(len(habit), program)
    for row in itertools.product(can_come(habit, layout), repeat=len(at_all)):
        ahead = dict(zip(at_all, row))
        yield tuple(ahead.get(at) for at in range(len(program)))


def slow_least_price(habit, layout, program):
    """The least price of all plans: all layouts of the joins are tried, what hangs below them is led the best way."""
    places, end = len(habit), len(program)
    comes = can_come(habit, layout)
    ways = {(one, other): distance(habit, one, other) for one in comes for other in comes}
    pairs = [pair for pair in flow(places, program) if pair[1] != end]
    goals = {at: [goal for one, goal in pairs if one == at] for at in reached(places, program)}
    arrivals = [0] + [goal for _, goal in pairs]
    joins = [at for at in goals if arrivals.count(at) > 1]

    def onward(at, ahead, chosen, known):
        is_access = program[at][0] in ACCESSES
        behind = touched(habit, ahead, ahead[program[at][1]]) if is_access else ahead
        return sum(cost_to(goal, behind, chosen, known) for goal in goals[at])

    def cost_to(at, stood, chosen, known):
        if at in chosen:
            return ways[stood, chosen[at]]
        if (at, stood) not in known:
            known[at, stood] = min(ways[stood, ahead] + onward(at, ahead, chosen, known) for ahead in comes)
        return known[at, stood]

    costs = []
    for row in itertools.product(comes, repeat=len(joins)):
        chosen, known = dict(zip(joins, row)), {}
        costs.append(cost_to(0, layout, chosen, known) + sum(onward(at, chosen[at], chosen, known) for at in joins))
    return min(costs)


def calm_habit(source, places):
    """A habit of which most touches move nothing: the few layouts that come are far from one another."""
    habit = helpers.random_habit(source, places)
    moving = source.sample(range(places), source.choice((1, 1, 2)))
    return tuple(moves if at in moving else tuple(range(places)) for at, moves in enumerate(habit))


def random_case(source, places, most):
    habit = helpers.random_habit(source, places)
    return habit, helpers.random_layout(source, places), helpers.random_program(source, places, most)


def random_plan(source, habit, layout, program):
    comes, at_all = can_come(habit, layout), reached(len(habit), program)
    return tuple(source.choice(comes) if at in at_all else None for at in range(len(program)))


def loops(count):
    """A still program with so many instructions to which there is more than one way, the first one included."""
    rows = []
    for at in range(count):
        rows += [("get", at % 2), ("zero", 2 * at)]
    return tuple(rows)


class ExampleTests(unittest.TestCase):
    def test_examples(self):
        plan = least_plan(SWAP, (0, 1), LOOP)
        self.assertEqual(price(SWAP, (0, 1), LOOP, plan), 1)
        self.assertEqual(price(SWAP, (0, 1), LOOP, ((0, 1), (1, 0))), 1)
        self.assertEqual(price(SWAP, (0, 1), LOOP, ((1, 0), (1, 0))), 2)
        self.assertTrue(carries(SWAP, (0, 1), LOOP, written(SWAP, (0, 1), LOOP, plan)))
        self.assertIs(shows_least_plan(SWAP, (0, 1), LOOP, ((0, 1), (0, 1))), True)
        with self.assertRaises(BadPlan):
            price(SWAP, (0, 1), LOOP, ((0, 1), None))


def bad_plans():
    """Wrong plans, on a shelf of two places, of three instructions of which the last one is not reached."""
    one, other = (0, 1), (1, 0)
    lengths = [(one, other), (one, other, None, None), (), [one, other, None]]
    things = [(one, wrong, None) for wrong, _, _ in helpers.bad_layouts()]
    things += [(wrong, wrong, None) for wrong, _, _ in helpers.bad_layouts()]
    kept = [(one, other, wrong) for wrong in (one, False, (), "a", 0)]
    return helpers.awaited("BadPlan", (), list(helpers.ODD) + [0] + lengths + things + kept)


THREE = (("get", 0), ("go", 0), ("say",))


class PriceTests(unittest.TestCase):
    def test_against_distances(self):
        source = random.Random(11)
        for _ in range(150):
            habit, layout, program = random_case(source, source.randint(2, 4), 9)
            plan = random_plan(source, habit, layout, program)
            self.assertEqual(price(habit, layout, program, plan), slow_price(habit, layout, program, plan))

    def test_ways_to_the_end_cost_nothing(self):
        self.assertEqual(price(SWAP, (0, 1), (("get", 0),), ((0, 1),)), 0)
        self.assertEqual(price(SWAP, (0, 1), (("zero", 1),), ((1, 0),)), 1)

    def test_alike_pairs_cost_once(self):
        self.assertEqual(price(SWAP, (0, 1), (("zero", 1), ("say",)), ((0, 1), (1, 0))), 1)

    def test_a_layout_that_cannot_come(self):
        still = ((0, 1), (0, 1))
        self.assertEqual(price(still, (0, 1), (("say",),), ((0, 1),)), 0)
        helpers.assert_raises(self, "BadPlan", (), price, still, (0, 1), (("say",),), ((1, 0),))

    def test_wrong_arguments(self):
        rows = [helpers.bad_habits(), helpers.bad_layouts(), helpers.bad_stills()]
        for function in (price, written):
            good = (SWAP, (0, 1), THREE, ((0, 1), (0, 1), None))
            helpers.assert_names_wrong_arguments(self, function, good, rows + [bad_plans()])


class LeastPlanTests(unittest.TestCase):
    def test_against_all_plans(self):
        source = random.Random(12)
        done = 0
        while done < 150:
            habit, layout, program = random_case(source, source.choice((2, 2, 3)), 7)
            if len(can_come(habit, layout)) ** len(reached(len(habit), program)) > 700:
                continue
            done += 1
            prices = {plan: slow_price(habit, layout, program, plan) for plan in all_plans(habit, layout, program)}
            self.assertEqual(prices[least_plan(habit, layout, program)], min(prices.values()))
            for plan in source.sample(sorted(prices, key=repr), min(3, len(prices))):
                is_least = prices[plan] == min(prices.values())
                self.assertIs(shows_least_plan(habit, layout, program, plan), is_least)

    def test_touches_ahead_of_a_zero_are_shared(self):
        habit = ((0, 1), (1, 0))
        program = (("zero", 3), ("get", 0), ("stop",), ("get", 0), ("get", 0), ("go", 1))
        plan = least_plan(habit, (1, 0), program)
        self.assertEqual(slow_price(habit, (1, 0), program, plan), min(
            slow_price(habit, (1, 0), program, other) for other in all_plans(habit, (1, 0), program)))

    def assert_is_least(self, habit, layout, program):
        plan = least_plan(habit, layout, program)
        self.assertEqual(slow_price(habit, layout, program, plan), slow_least_price(habit, layout, program))

    def test_longer_programs(self):
        source = random.Random(13)
        done = 0
        while done < 150:
            places = source.choice((3, 3, 4))
            habit = source.choice((calm_habit, helpers.random_habit))(source, places)
            layout = helpers.random_layout(source, places)
            program = helpers.random_program(source, places, 14)
            if len(can_come(habit, layout)) <= 6:
                try:
                    self.assert_is_least(habit, layout, program)
                    done += 1
                except TooMany:
                    continue

    def test_branches_with_several_joins_below(self):
        programs = [
            (("get", 0), ("zero", 4), ("set", 1), ("zero", 0), ("get", 2), ("zero", 6), ("go", 0)),
            (("zero", 4), ("get", 0), ("zero", 8), ("go", 9), ("get", 1), ("zero", 8), ("get", 2), ("go", 9), ("get", 0),
             ("get", 2), ("zero", 8), ("go", 0)),
            (("get", 0), ("zero", 6), ("get", 1), ("zero", 0), ("plus", 2), ("go", 9), ("get", 2), ("zero", 9), ("go", 0),
             ("get", 1), ("zero", 9), ("say",)),
            (("get", 0), ("go", 2), ("zero", 7), ("set", 1), ("set", 2), ("set", 0), ("zero", 2), ("set", 2), ("set", 1),
             ("zero", 0), ("minus", 0), ("go", 2)),
        ]
        source = random.Random(24)
        for program in programs:
            for _ in range(12):
                habit = source.choice((calm_habit, helpers.random_habit))(source, 3)
                self.assert_is_least(habit, helpers.random_layout(source, 3), program)

    def test_instructions_that_are_not_reached_have_none(self):
        plan = least_plan(SWAP, (0, 1), (("go", 2), ("say",), ("stop",), ("get", 0)))
        self.assertEqual([ahead is None for ahead in plan], [False, True, False, True])

    def test_as_many_choices_as_may_be(self):
        plan = least_plan(SWAP, (0, 1), loops(14))
        self.assertEqual(len(plan), 28)
        self.assertTrue(shows_least_plan(SWAP, (0, 1), loops(14), plan))
        round_three = ((1, 2, 0),) * 3
        self.assertEqual(len(least_plan(round_three, (0, 1, 2), loops(9))), 18)
        self.assertEqual(len(least_plan(front_habit(4), (0, 1, 2, 3), loops(3))), 6)
        self.assertEqual(len(least_plan(front_habit(5), (0, 1, 2, 3, 4), loops(2))), 4)
        still = ((0, 1), (0, 1))
        self.assertEqual(least_plan(still, (1, 0), loops(100)), ((1, 0),) * 200)

    def test_too_many_choices(self):
        rows = (
            (SWAP, (0, 1), 15), (((1, 2, 0),) * 3, (0, 1, 2), 10),
            (front_habit(4), (0, 1, 2, 3), 4), (front_habit(5), (4, 3, 2, 1, 0), 3),
        )
        for habit, layout, count in rows:
            helpers.assert_raises(self, "TooMany", (20000,), least_plan, habit, layout, loops(count))

    def test_the_start_counts_for_the_first_instruction_alone(self):
        front = front_habit(5)
        layout = (0, 1, 2, 3, 4)
        program = (("say",), ("get", 0), ("zero", 1), ("get", 1), ("zero", 3))
        self.assertEqual(len(least_plan(front, layout, program)), 5)
        helpers.assert_raises(self, "TooMany", (20000,), least_plan, front, layout, program + (("zero", 0),))

    def test_pairs_to_the_end_and_alike_pairs_do_not_count(self):
        front = front_habit(5)
        program = (("zero", 1), ("zero", 6), ("zero", 6), ("zero", 4), ("zero", 6), ("zero", 6))
        self.assertEqual(least_plan(front, (0, 1, 2, 3, 4), program), ((0, 1, 2, 3, 4),) * 6)

    def test_too_many_comes_last(self):
        row = (front_habit(5), (0, 0, 2, 3, 4), loops(3))
        helpers.assert_raises(self, "BadLayout", (), least_plan, *row)
        helpers.assert_raises(self, "BadLayout", (), shows_least_plan, *row, ())

    def test_wrong_arguments(self):
        rows = [helpers.bad_habits(), helpers.bad_layouts(), helpers.bad_stills()]
        helpers.assert_names_wrong_arguments(self, least_plan, (SWAP, (0, 1), LOOP), rows)
        helpers.assert_names_wrong_arguments(self, shows_least_plan, (SWAP, (0, 1), LOOP, None), rows + [[]])

    def test_any_value_may_be_shown(self):
        for value, _, _ in bad_plans():
            self.assertIs(shows_least_plan(SWAP, (0, 1), THREE, value), False, value)
        self.assertIs(shows_least_plan(SWAP, (0, 1), THREE, ((0, 1), (1, 0), None)), True)
        self.assertIs(shows_least_plan(SWAP, (0, 1), THREE, ((1, 0), (1, 0), None)), False)


class ShownBeyondTheBoundTests(unittest.TestCase):
    """Plans that are shown where there are too many choices for one to be looked for."""

    def assert_shows(self, habit, layout, program, plan, is_least):
        helpers.assert_raises(self, "TooMany", (20000,), least_plan, habit, layout, program)
        self.assertIs(shows_least_plan(habit, layout, program, plan), is_least)

    def test_plans_without_a_touch(self):
        layout = (0, 1, 2, 3, 4)
        for count in (3, 4, 50):
            program = tuple(("zero", at) for at in range(count))
            self.assert_shows(front_habit(5), layout, program, (layout,) * count, True)
            self.assert_shows(front_habit(5), layout, program, ((1, 0, 2, 3, 4),) * count, False)
            self.assert_shows(front_habit(5), layout, program, (layout,) * (count - 1) + ((1, 0, 2, 3, 4),), False)

    def test_loops(self):
        # Each loop costs a touch: its access moves the books, and the way back and the way on lead to unlike layouts.
        for count in (15, 30, 100):
            program = loops(count)
            plan = ((0, 1),) * (2 * count)
            self.assertEqual(price(SWAP, (0, 1), program, plan), count)
            self.assert_shows(SWAP, (0, 1), program, plan, True)
            self.assert_shows(SWAP, (0, 1), program, ((0, 1),) + ((1, 0),) * (2 * count - 1), True)
            self.assert_shows(SWAP, (0, 1), program, ((1, 0),) * (2 * count), False)

    def test_values_that_are_no_plans(self):
        row = (SWAP, (0, 1), loops(15))
        for value, _, _ in bad_plans():
            self.assert_shows(*row, value, False)
        self.assert_shows(*row, ((0, 1),) * 29, False)
        self.assert_shows(*row, ((0, 1),) * 29 + (None,), False)
        self.assert_shows(*row, [(0, 1)] * 30, False)

    def test_wrong_arguments_are_named(self):
        row = (front_habit(5), (0, 0, 2, 3, 4), loops(3))
        helpers.assert_raises(self, "BadLayout", (), shows_least_plan, *row, ())

    def test_against_all_layouts_of_the_joins(self):
        source = random.Random(25)
        kinds = ("get", "set", "plus", "zero", "zero", "zero")
        done = {True: 0, False: 0}
        while min(done.values()) < 2:
            habit = source.choice((calm_habit, helpers.random_habit))(source, source.choice((2, 3)))
            layout = helpers.random_layout(source, len(habit))
            count = source.choice((9, 12, 18))
            program = tuple(helpers.random_instruction(source, source.choice(kinds), len(habit), count)
                            for _ in range(count))
            if not 20000 < len(can_come(habit, layout)) ** len(joins_of(program)) < 70000:
                continue
            with mock.patch("restlesshelf.planning.MOST_CHOICES", 100000):
                least = slow_price(habit, layout, program, least_plan(habit, layout, program))
            plan = improved(habit, layout, program, random_plan(source, habit, layout, program))
            is_least = slow_price(habit, layout, program, plan) == least
            done[is_least] += 1
            self.assert_shows(habit, layout, program, plan, is_least)
            search = Search(Ground(habit, layout), program)
            self.assertIs(has_plan_below(search, least), False)
            self.assertIs(has_plan_below(search, least + 1), True)

    def test_programs_within_the_bound(self):
        source = random.Random(26)
        done = 0
        while done < 40:
            places = source.choice((2, 3, 3, 4, 4))
            habit = source.choice((calm_habit, helpers.random_habit))(source, places)
            layout = helpers.random_layout(source, places)
            program = helpers.random_program(source, places, 16)
            try:
                least = price(habit, layout, program, least_plan(habit, layout, program))
            except TooMany:
                continue
            done += least > 0
            search = Search(Ground(habit, layout), program)
            self.assertIs(has_plan_below(search, least), False)
            self.assertIs(has_plan_below(search, least + 1), True)


def improved(habit, layout, program, plan):
    """A plan that no other layout of a single instruction makes cheaper."""
    comes = can_come(habit, layout)
    least = slow_price(habit, layout, program, plan)
    for at in [at for at, ahead in enumerate(plan) if ahead is not None] * 2:
        for ahead in comes:
            other = plan[:at] + (ahead,) + plan[at + 1:]
            if slow_price(habit, layout, program, other) < least:
                plan, least = other, slow_price(habit, layout, program, other)
    return plan


class WrittenTests(unittest.TestCase):
    def assert_is_written(self, habit, layout, program, plan):
        restless = written(habit, layout, program, plan)
        self.assertTrue(carries(habit, layout, program, restless))
        touches = sum(row[0] == "touch" for row in restless)
        self.assertLessEqual(touches, slow_price(habit, layout, program, plan))
        return restless

    def test_any_plan(self):
        source = random.Random(14)
        for _ in range(250):
            habit, layout, program = random_case(source, source.randint(2, 5), 12)
            self.assert_is_written(habit, layout, program, random_plan(source, habit, layout, program))

    def test_least_plans_say_the_same(self):
        source = random.Random(15)
        done = 0
        while done < 150:
            habit, layout, program = random_case(source, source.randint(2, 4), 10)
            try:
                plan = least_plan(habit, layout, program)
            except TooMany:
                continue
            done += 1
            restless = self.assert_is_written(habit, layout, program, plan)
            for inputs in ((), (1, -1), (0, 0, 2, 1, -3)):
                still = run_still(len(habit), program, inputs, 60)
                self.assertTrue(helpers.said_alike(still, run_restless(habit, restless, inputs, 20000)))

    def test_edges(self):
        programs = [
            (("go", 1),), (("go", 0),), (("stop",),), (("zero", 0),), (("zero", 1),), (("go", 2), ("get", 0)),
            (("zero", 2), ("go", 1)), (("go", 1), ("go", 2), ("go", 0)), (("zero", 1), ("get", 1)), (("zero", 2), ("get", 0)),
        ]
        for program in programs:
            for plan in all_plans(SWAP, (1, 0), program):
                self.assert_is_written(SWAP, (1, 0), program, plan)

    def test_programs_of_200(self):
        front = front_habit(5)
        program = tuple(("get", at * at % 5) for at in range(200))
        plan = least_plan(front, (0, 1, 2, 3, 4), program)
        self.assertEqual(self.assert_is_written(front, (0, 1, 2, 3, 4), program, plan)[:1], (("get", 0),))
        turning = turning_habit(5)
        self.assert_is_written(turning, (0, 1, 2, 3, 4), program, ((0, 1, 2, 3, 4), (1, 2, 3, 4, 0)) * 100)

    def test_too_long(self):
        habit = ((0, 2, 1, 4, 3), (1, 3, 0, 2, 4)) + ((0, 1, 2, 3, 4),) * 3
        comes = can_come(habit, (0, 1, 2, 3, 4))
        one = comes[0]
        two = max(comes, key=lambda other: distance(habit, one, other))
        three = max(comes, key=lambda other: distance(habit, two, other) + distance(habit, one, other))
        program = tuple(("zero", at) for at in range(2, 202))[:198] + (("say",), ("say",))
        plan = ((one, two, three) * 67)[:200]
        self.assertGreater(slow_price(habit, one, program, plan) + len(program), 4000)
        helpers.assert_raises(self, "TooMany", (4000,), written, habit, one, program, plan)
        self.assert_is_written(habit, one, program, (one,) * 200)
        helpers.assert_raises(self, "BadPlan", (), written, habit, one, program, plan[:199])


if __name__ == "__main__":
    unittest.main()
