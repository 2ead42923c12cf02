"""What plans cost while programs run: points 60, 61 and 62, and what point 1 says of their arguments."""

import itertools
import random
import unittest
from fractions import Fraction

from restlesshelf.plans import price, written
from restlesshelf.programs import flow, reached
from restlesshelf.rings import dearer_ring, has_ring_as_dear
from restlesshelf.running import calmest_plan, dearest_ring, dearest_way, touches_on, way_prices
from restlesshelf.shelves import can_come, distance, front_habit, touched, turning_habit
from tests import helpers
from tests.test_plans import ACCESSES, SWAP, THREE, all_plans, bad_plans, calm_habit, random_case, random_plan

LOOP = (("get", 0), ("go", 0))
NO_RING = (("get", 0), ("zero", 3), ("set", 1), ("say",))


def slow_ways(habit, program, plan):
    """For each pair of flow, but those to the end, its blind touches."""
    ways = {}
    for at, goal in flow(len(habit), program):
        if goal != len(program):
            ahead = plan[at]
            behind = touched(habit, ahead, ahead[program[at][1]]) if program[at][0] in ACCESSES else ahead
            ways[at, goal] = distance(habit, behind, plan[goal])
    return ways


def simple_rings(pairs):
    """All rings without a smaller one in them."""
    rings = []
    waiting = [(at,) for at in sorted({at for at, _ in pairs})]
    while waiting:
        way = waiting.pop()
        for one, goal in pairs:
            if one == way[-1] and goal == way[0]:
                rings.append(way + (goal,))
            elif one == way[-1] and goal > way[0] and goal not in way:
                waiting.append(way + (goal,))
    return rings


def mean_of(ways, ring):
    return Fraction(sum(ways[pair] for pair in zip(ring, ring[1:])), len(ring) - 1)


def all_ways(pairs):
    """All ways from the first instruction on, if there is no ring."""
    rows, waiting = [], [(0,)]
    while waiting:
        way = waiting.pop()
        rows.append(way)
        waiting += [way + (goal,) for at, goal in pairs if at == way[-1]]
    return rows


def forward_program(source, places, most):
    """A program that never goes back."""
    count = source.randint(1, most)
    rows = []
    for at in range(count):
        word = source.choice(ACCESSES + ("zero", "zero", "go", "say", "stop"))
        number = source.randint(at + 1, count) if word in ("zero", "go") else source.randrange(places)
        rows.append((word,) if word in ("say", "stop") else (word, number))
    return tuple(rows)


class ExampleTests(unittest.TestCase):
    def test_examples(self):
        habit = ((1, 0), (0, 1))
        self.assertEqual(dearest_ring(habit, (0, 1), LOOP, ((0, 1), (1, 0))), ((0, 1, 0), (1, 2)))
        self.assertEqual(touches_on(habit, (("get", 0), ("touch", 1)), (), 9), (1, 1))


class TouchTests(unittest.TestCase):
    def test_by_hand(self):
        program = (("get", 0), ("touch", 1), ("set", 1), ("touch", 0), ("plus", 0), ("minus", 1), ("say",), ("put", 3))
        for most, told in enumerate([(0, 0), (1, 0), (1, 1), (2, 1), (2, 2), (3, 2), (4, 2), (4, 2), (4, 2), (4, 2)]):
            self.assertEqual(touches_on(SWAP, program, (), most), told)
        self.assertEqual(touches_on(SWAP, (("stop",), ("touch", 0)), (), 100), (0, 0))
        self.assertEqual(touches_on(SWAP, (("ask",), ("zero", 3), ("touch", 0), ("get", 0)), (1,), 9), (1, 1))
        self.assertEqual(touches_on(SWAP, (("ask",), ("zero", 3), ("touch", 0), ("get", 0)), (), 9), (1, 0))
        self.assertEqual(touches_on(SWAP, (("get", 0), ("touch", 0), ("go", 0)), (), 100000), (33334, 33333))
        self.assertEqual(touches_on(SWAP, (("touch", 0),) * 4000, (), 100000), (0, 4000))

    def test_against_runs(self):
        source = random.Random(111)
        for _ in range(150):
            places = source.randint(2, 5)
            habit, program = helpers.random_habit(source, places), helpers.random_restless(source, places, 10)
            inputs = tuple(source.randint(-1, 1) for _ in range(source.randint(0, 4)))
            most = source.choice((0, 1, 5, 20, 60))
            told = tuple(slow_count(habit, program, inputs, most, kinds) for kinds in (ACCESSES, ("touch",)))
            self.assertEqual(touches_on(habit, program, inputs, most), told)

    def test_written_programs(self):
        source = random.Random(112)
        for _ in range(60):
            program = forward_program(source, 3, 8)
            habit, layout = helpers.random_habit(source, 3), helpers.random_layout(source, 3)
            plan = random_plan(source, habit, layout, program)
            restless = written(habit, layout, program, plan)
            accesses, touches = touches_on(habit, restless, (), 100000)
            _, most = dearest_way(habit, layout, program, plan)
            self.assertLessEqual(touches, most)
            self.assertLessEqual(accesses, len(program))

    def test_wrong_arguments(self):
        rows = [helpers.bad_habits(), helpers.bad_restlesses(), helpers.bad_inputs(), helpers.bad_numbers(0, 100000)]
        helpers.assert_names_wrong_arguments(self, touches_on, (SWAP, (("touch", 1),), (1,), 5), rows)


def slow_count(habit, program, inputs, most, kinds):
    """How many instructions of some kinds are among the first ones of a run."""
    count, at, hand, left = 0, 0, 0, list(inputs)
    holding = [0] * len(habit)
    for _ in range(most):
        if at == len(program) or program[at][0] == "stop":
            break
        word, *rest = program[at]
        count += word in kinds
        at += 1
        if word in ("zero", "go"):
            at = rest[0] if word == "go" or hand == 0 else at
        elif word in ("put", "ask"):
            hand = rest[0] if word == "put" else (left.pop(0) if left else 0)
        elif word != "say":
            held = holding[rest[0]]
            if word == "set":
                holding[rest[0]] = hand
            hand = {"get": held, "plus": hand + held, "minus": hand - held}.get(word, hand)
            moved = [0] * len(habit)
            for stood, goal in enumerate(habit[rest[0]]):
                moved[goal] = holding[stood]
            holding = moved
    return count


class WayTests(unittest.TestCase):
    def test_prices_of_all_ways(self):
        source = random.Random(113)
        for _ in range(150):
            habit, layout, program = random_case(source, source.randint(2, 4), 9)
            plan = random_plan(source, habit, layout, program)
            ways = slow_ways(habit, program, plan)
            told = way_prices(habit, layout, program, plan)
            self.assertEqual(told, tuple(sorted((at, goal, cost) for (at, goal), cost in ways.items())))
            total = sum(cost for _, _, cost in told) + distance(habit, layout, plan[0])
            self.assertEqual(total, price(habit, layout, program, plan))

    def test_edges(self):
        self.assertEqual(way_prices(SWAP, (0, 1), (("say",),), ((1, 0),)), ())
        self.assertEqual(way_prices(SWAP, (0, 1), (("zero", 1), ("say",)), ((0, 1), (1, 0))), ((0, 1, 1),))
        self.assertEqual(way_prices(SWAP, (0, 1), (("zero", 0),), ((1, 0),)), ((0, 0, 0),))
        self.assertEqual(way_prices(SWAP, (0, 1), (("stop",), ("say",)), ((0, 1), None)), ())
        self.assertEqual(way_prices(SWAP, (0, 1), THREE, ((0, 1), (0, 1), None)), ((0, 1, 1), (1, 0, 0)))

    def test_dearest_ring(self):
        source = random.Random(114)
        done = 0
        for _ in range(400):
            habit, layout, program = random_case(source, source.randint(2, 4), 10)
            if source.random() < 0.5:
                program = tuple(row if row != ("stop",) else ("zero", 0) for row in program)
            plan = random_plan(source, habit, layout, program)
            ways = slow_ways(habit, program, plan)
            rings = simple_rings(sorted(ways))
            told = dearest_ring(habit, layout, program, plan)
            if not rings:
                self.assertIsNone(told)
                continue
            ring, (top, low) = told
            best = max(mean_of(ways, one) for one in rings)
            done += 0 < best
            self.assertEqual((top, low), (best.numerator, best.denominator))
            self.assertEqual(mean_of(ways, ring), best)
            self.assertEqual(ring[0], ring[-1])
            self.assertGreaterEqual(len(ring), 2)
        self.assertGreater(done, 80)

    def test_rings_by_hand(self):
        self.assertEqual(dearest_ring(SWAP, (0, 1), (("zero", 0),), ((0, 1),)), ((0, 0), (0, 1)))
        self.assertEqual(dearest_ring(SWAP, (0, 1), (("go", 0),), ((1, 0),)), ((0, 0), (0, 1)))
        self.assertIsNone(dearest_ring(SWAP, (0, 1), (("go", 1),), ((1, 0),)))
        self.assertIsNone(dearest_ring(SWAP, (0, 1), (("stop",), ("go", 1)), ((1, 0), None)))
        self.assertIsNone(dearest_ring(SWAP, (0, 1), NO_RING, ((0, 1),) * 4))
        # The ring that costs less in all costs more for each of its steps.
        program = (("get", 0), ("zero", 0), ("say",), ("say",), ("say",), ("say",), ("go", 0))
        plan = ((0, 1), (1, 0), (0, 1), (0, 1), (0, 1), (1, 0), (1, 0))
        ring, mean = dearest_ring(SWAP, (0, 1), program, plan)
        self.assertEqual(mean, (1, 2))
        self.assertIn(ring, ((0, 1, 0), (1, 0, 1)))
        whole = (0, 1, 2, 3, 4, 5, 6, 0)
        self.assertEqual(mean_of(slow_ways(SWAP, program, plan), whole), Fraction(3, 7))

    def test_dearest_way(self):
        source = random.Random(115)
        for _ in range(250):
            places = source.randint(2, 4)
            habit, layout = helpers.random_habit(source, places), helpers.random_layout(source, places)
            program = forward_program(source, places, 10)
            plan = random_plan(source, habit, layout, program)
            ways = slow_ways(habit, program, plan)
            costs = {way: sum(ways[pair] for pair in zip(way, way[1:])) for way in all_ways(sorted(ways))}
            way, touches = dearest_way(habit, layout, program, plan)
            start = distance(habit, layout, plan[0])
            self.assertEqual(touches, max(costs.values()) + start)
            self.assertEqual(costs[way] + start, touches)

    def test_ways_by_hand(self):
        self.assertEqual(dearest_way(SWAP, (0, 1), (("stop",),), ((1, 0),)), ((0,), 1))
        self.assertEqual(dearest_way(SWAP, (0, 1), (("say",),), ((0, 1),))[1], 0)
        self.assertIsNone(dearest_way(SWAP, (0, 1), (("zero", 0),), ((0, 1),)))
        self.assertIsNone(dearest_way(SWAP, (0, 1), LOOP, ((0, 1), (1, 0))))
        plan = ((0, 1), (0, 1), (1, 0), (1, 0))
        self.assertEqual(dearest_way(SWAP, (0, 1), NO_RING, plan), ((0, 1, 2, 3), 3))

    def test_a_way_or_a_ring(self):
        source = random.Random(116)
        for _ in range(200):
            habit, layout, program = random_case(source, 2, 8)
            plan = random_plan(source, habit, layout, program)
            has_ring = dearest_ring(habit, layout, program, plan) is not None
            self.assertIs(dearest_way(habit, layout, program, plan) is None, has_ring)

    def test_200_instructions(self):
        front, layout = front_habit(5), (0, 1, 2, 3, 4)
        source = random.Random(117)
        program = tuple(("zero", min(200, at + source.randint(2, 6))) if at % 2 else ("get", at % 5) for at in range(200))
        plan = random_plan(source, front, layout, program)
        way, touches = dearest_way(front, layout, program, plan)
        ways = slow_ways(front, program, plan)
        self.assertEqual(touches, sum(ways[pair] for pair in zip(way, way[1:])) + distance(front, layout, plan[0]))
        rounds = program[:199] + (("go", 0),)
        plan = random_plan(source, front, layout, rounds)
        ring, mean = dearest_ring(front, layout, rounds, plan)
        self.assertEqual(mean_of(slow_ways(front, rounds, plan), ring), Fraction(*mean))
        # Many ways that part and meet again.
        wide = tuple(row for at in range(66) for row in (("zero", 3 * at + 2), ("get", 0), ("get", 1)))
        way, touches = dearest_way(front, layout, wide, (layout,) * len(wide))
        self.assertEqual(touches, 65)

    def test_wrong_arguments(self):
        rows = [helpers.bad_habits(), helpers.bad_layouts(), helpers.bad_stills(), bad_plans()]
        for function in (way_prices, dearest_ring, dearest_way):
            helpers.assert_names_wrong_arguments(self, function, (SWAP, (0, 1), THREE, ((0, 1), (0, 1), None)), rows)


class RingTests(unittest.TestCase):
    def test_as_dear_and_dearer(self):
        source = random.Random(119)
        for _ in range(300):
            count = source.randint(1, 6)
            pairs = {(at, (at + 1) % count) for at in range(count)}
            pairs |= {(source.randrange(count), source.randrange(count)) for _ in range(source.choice((0, 0, 2)))}
            ways = {pair: source.choice((0, 0, 1, 2)) for pair in sorted(pairs)}
            best = max(mean_of(ways, ring) for ring in simple_rings(sorted(ways)))
            for low in range(1, 9):
                for top in range(0, 2 * low + 2):
                    self.assertIs(has_ring_as_dear(ways, (top, low)), Fraction(top, low) <= best)
                    self.assertIs(dearer_ring(ways, (top, low)) is not None, Fraction(top, low) < best)


class CalmestPlanTests(unittest.TestCase):
    def slow_mean(self, habit, program, plan):
        """The mean of a plan's dearest ring, None without a ring."""
        ways = slow_ways(habit, program, plan)
        return max((mean_of(ways, ring) for ring in simple_rings(sorted(ways))), default=None)

    def assert_is_plan(self, habit, layout, program, plan):
        price(habit, layout, program, plan)
        self.assertIsInstance(plan, tuple)

    def test_against_all_plans(self):
        source = random.Random(118)
        done = 0
        while done < 60:
            places = source.choice((2, 2, 3))
            habit = source.choice((calm_habit, helpers.random_habit))(source, places)
            layout = helpers.random_layout(source, places)
            kinds = ACCESSES + ("zero", "zero", "zero", "go", "say")
            count = source.randint(1, 7)
            program = tuple(helpers.random_instruction(source, source.choice(kinds), places, count) for _ in range(count))
            if len(can_come(habit, layout)) ** len(reached(places, program)) > 300:
                continue
            means = [self.slow_mean(habit, program, plan) for plan in all_plans(habit, layout, program)]
            plan, mean = calmest_plan(habit, layout, program)
            self.assert_is_plan(habit, layout, program, plan)
            if means[0] is None:
                self.assertIsNone(mean)
                continue
            done += min(means) > 0
            self.assertEqual(mean, (min(means).numerator, min(means).denominator))
            self.assertEqual(self.slow_mean(habit, program, plan), min(means))

    def test_by_hand(self):
        # Each round through SWAP's access needs one touch back.
        plan, mean = calmest_plan(SWAP, (0, 1), LOOP)
        self.assertEqual(mean, (1, 2))
        self.assertEqual(dearest_ring(SWAP, (0, 1), LOOP, plan)[1], (1, 2))
        self.assertEqual(calmest_plan(front_habit(5), (4, 3, 2, 1, 0), LOOP)[1], (0, 1))
        self.assertEqual(calmest_plan(SWAP, (0, 1), (("zero", 0),)), (((0, 1),), (0, 1)))
        twice = (("get", 0), ("get", 0), ("go", 0))
        self.assertEqual(calmest_plan(SWAP, (0, 1), twice)[1], (0, 1))

    def test_without_a_ring(self):
        plan, mean = calmest_plan(SWAP, (0, 1), NO_RING)
        self.assertIsNone(mean)
        self.assert_is_plan(SWAP, (0, 1), NO_RING, plan)
        plan, mean = calmest_plan(front_habit(5), (0, 1, 2, 3, 4), (("stop",), ("go", 1), ("get", 0)))
        self.assertIsNone(mean)
        self.assertEqual(plan[1:], (None, None))
        self.assert_is_plan(front_habit(5), (0, 1, 2, 3, 4), (("stop",), ("go", 1), ("get", 0)), plan)

    def test_instructions_beside_rings(self):
        program = (("set", 1), ("get", 0), ("zero", 1), ("get", 1), ("go", 6), ("say",), ("stop",))
        plan, mean = calmest_plan(SWAP, (0, 1), program)
        self.assertEqual([ahead is None for ahead in plan], [False] * 5 + [True, False])
        self.assertEqual(mean, (1, 2))
        self.assertEqual(self.slow_mean(SWAP, program, plan), Fraction(1, 2))

    def ring_program(self, count):
        return tuple(("get", at % 2) for at in range(count - 1)) + (("go", 0),)

    def test_as_many_choices_as_may_be(self):
        round_three = ((1, 2, 0),) * 3
        rows = (
            (SWAP, 14, 15), (round_three, 9, 10), (front_habit(4), 3, 4), (front_habit(5), 2, 3), (turning_habit(5), 6, 7),
        )
        for habit, most, too_many in rows:
            layout = tuple(range(len(habit)))
            plan, mean = calmest_plan(habit, layout, self.ring_program(most))
            self.assertEqual(dearest_ring(habit, layout, self.ring_program(most), plan)[1], mean)
            helpers.assert_raises(self, "TooMany", (20000,), calmest_plan, habit, layout, self.ring_program(too_many))
            # Without a ring, too; but what is not reached does not count.
            line = (("say",),) * too_many
            helpers.assert_raises(self, "TooMany", (20000,), calmest_plan, habit, layout, line)
            self.assertIsNone(calmest_plan(habit, layout, (("say",),) * (most - 1) + (("stop",),) + line)[1])

    def test_one_layout(self):
        still = ((0, 1, 2),) * 3
        plan, mean = calmest_plan(still, (2, 0, 1), self.ring_program(200))
        self.assertEqual((plan, mean), (((2, 0, 1),) * 200, (0, 1)))

    def test_wrong_arguments(self):
        rows = [helpers.bad_habits(), helpers.bad_layouts(), helpers.bad_stills()]
        helpers.assert_names_wrong_arguments(self, calmest_plan, (SWAP, (0, 1), LOOP), rows)
        wrong = self.ring_program(15) + (("touch", 0),)
        helpers.assert_raises(self, "BadProgram", (15,), calmest_plan, SWAP, (0, 1), wrong)
        helpers.assert_raises(self, "BadLayout", (), calmest_plan, SWAP, (0, 0), self.ring_program(15))


if __name__ == "__main__":
    unittest.main()
