"""Shared touches: points 79, 80 and 81, and what point 1 says of their arguments."""

import itertools
import random
import unittest

from restlesshelf.carrying import carries
from restlesshelf.plans import least_plan, price
from restlesshelf.programs import flow, reached, run_restless, run_still
from restlesshelf.shelves import can_come, distance, front_habit, neighbour_habit, touched, turning_habit
from restlesshelf.sharing import leads_all, least_shared, shared, shared_touches, written_shared
from tests import helpers
from tests.test_plans import ACCESSES, LOOP, THREE, all_plans, bad_plans, calm_habit, random_case, random_plan

SWAP = ((1, 0), (0, 1))
STILL = ((0, 1), (0, 1))
TURN = ((1, 2, 0), (0, 1, 2), (0, 1, 2))


def led(habit, places, source, layout):
    """Whether touches, of the place that is told for each layout, lead a source to a layout."""
    stood = [source]
    while stood[-1] != layout:
        if stood[-1] not in places:
            return False
        stood.append(touched(habit, stood[-1], places[stood[-1]]))
        if stood[-1] in stood[:-1]:
            return False
    return True


def slow_fewest(habit, sources, layout):
    """How few pairs lead all sources to a layout, by all choices of a place or none for each other layout."""
    others = [one for one in can_come(habit, layout) if one != layout]
    choices = []
    for one in others:
        # Places that lead to the same layout are alike, and one that leads nowhere is of no use.
        goals = {touched(habit, one, place): place for place in range(len(habit))}
        choices.append([None] + [place for goal, place in goals.items() if goal != one])
    fewest = None
    for row in itertools.product(*choices):
        places = {one: place for one, place in zip(others, row) if place is not None}
        if (fewest is None or len(places) < fewest) and all(led(habit, places, one, layout) for one in sources):
            fewest = len(places)
    return fewest


def fewest_of_three(habit, sources, layout):
    """The same for up to three sources, by the distances to where two of them meet, and to where all do."""
    comes = can_come(habit, layout)
    ways = {(one, other): distance(habit, one, other) for one in comes for other in comes}
    rows = sources + (layout,) * (3 - len(sources))
    costs = []
    for one, other, third in ((0, 1, 2), (0, 2, 1), (1, 2, 0)):
        for meeting in comes:
            pair = ways[rows[one], meeting] + ways[rows[other], meeting]
            costs += [pair + ways[meeting, last] + ways[rows[third], last] + ways[last, layout] for last in comes]
    return min(costs)


def few_layouts(source):
    """A shelf with at most eight layouts, and one of them."""
    while True:
        places = source.choice((2, 3, 3, 4, 5))
        habit, layout = calm_habit(source, places), helpers.random_layout(source, places)
        if len(can_come(habit, layout)) <= 8:
            return habit, layout


def random_sources(source, habit, layout, most=5):
    comes = can_come(habit, layout)
    return tuple(sorted(source.sample(comes, source.randint(1, min(most, len(comes))))))


class ExampleTests(unittest.TestCase):
    def test_examples(self):
        self.assertEqual(shared(TURN, ((0, 1, 2), (2, 0, 1)), (1, 2, 0)), (((0, 1, 2), 0), ((2, 0, 1), 0)))
        self.assertEqual(least_shared(SWAP, (0, 1), (("get", 0), ("go", 0))), (((0, 1), (0, 1)), 1))


class SharedTests(unittest.TestCase):
    def assert_leads(self, habit, sources, layout):
        """Asserts that shared leads there, by pairs of which none can be left out; tells how many they are."""
        pairs = shared(habit, sources, layout)
        self.assertEqual(list(pairs), sorted(pairs))
        self.assertEqual(len(dict(pairs)), len(pairs))
        self.assertNotIn(layout, dict(pairs))
        self.assertTrue(all(led(habit, dict(pairs), one, layout) for one in sources))
        self.assertIs(leads_all(habit, sources, layout, pairs), True)
        for at in range(len(pairs)):
            self.assertIs(leads_all(habit, sources, layout, pairs[:at] + pairs[at + 1:]), False)
        return len(pairs)

    def test_against_all_choices(self):
        source = random.Random(281)
        sizes = {}
        for _ in range(250):
            habit, layout = few_layouts(source)
            sources = random_sources(source, habit, layout)
            self.assertEqual(self.assert_leads(habit, sources, layout), slow_fewest(habit, sources, layout))
            sizes[len(sources)] = sizes.get(len(sources), 0) + 1
        self.assertGreater(min(sizes.get(count, 0) for count in range(1, 6)), 5)

    def test_up_to_three_sources(self):
        source = random.Random(282)
        for _ in range(30):
            habit, layout = helpers.random_habit(source, 4), helpers.random_layout(source, 4)
            sources = random_sources(source, habit, layout, 3)
            self.assertEqual(self.assert_leads(habit, sources, layout), fewest_of_three(habit, sources, layout))

    def test_120_layouts(self):
        source = random.Random(283)
        for _ in range(15):
            habit, layout = helpers.random_habit(source, 5), helpers.random_layout(source, 5)
            sources = random_sources(source, habit, layout)
            ways = [distance(habit, one, layout) for one in sources]
            fewest = self.assert_leads(habit, sources, layout)
            self.assertLessEqual(fewest, sum(ways))
            self.assertGreaterEqual(fewest, max(max(ways), len(sources) - (layout in sources)))
            # A source on the way of others costs nothing.
            if len(sources) < 5:
                pairs = shared(habit, sources, layout)
                more = tuple(sorted(set(sources) | {one for one, _ in pairs[:5 - len(sources)]}))
                self.assertEqual(len(shared(habit, more, layout)), fewest)
        # The way of each source alone.
        for one in can_come(front_habit(4), (0, 1, 2, 3)):
            self.assertEqual(len(shared(front_habit(4), (one,), (3, 1, 0, 2))), distance(front_habit(4), one, (3, 1, 0, 2)))

    def test_edges(self):
        self.assertEqual(shared(SWAP, ((0, 1),), (0, 1)), ())
        self.assertEqual(shared(SWAP, ((0, 1), (1, 0)), (0, 1)), (((1, 0), 0),))
        self.assertEqual(shared(STILL, ((1, 0),), (1, 0)), ())
        # Three layouts in a round: the farther one shares the nearer one's touch.
        self.assertEqual(shared(TURN, ((0, 1, 2), (1, 2, 0), (2, 0, 1)), (1, 2, 0)), (((0, 1, 2), 0), ((2, 0, 1), 0)))
        # All five touches of this shelf turn it by as many places: each source needs one of its own.
        turns = tuple(tuple((at + turn) % 5 for at in range(5)) for turn in range(5))
        self.assertEqual(len(shared(turning_habit(5), turns, (0, 1, 2, 3, 4))), 4)
        self.assertEqual(len(shared(((1, 2, 3, 4, 0),) * 5, turns, (0, 1, 2, 3, 4))), 4)
        self.assertEqual(len(shared(((1, 2, 3, 4, 0),) * 5, turns[1:2], (0, 1, 2, 3, 4))), 4)

    def test_sources(self):
        six = tuple(helpers.all_layouts(3))
        self.assertEqual(len(shared(front_habit(3), six[1:], six[0])), 5)
        self.assertEqual(len(shared(front_habit(3), six[:5], six[0])), 4)
        helpers.assert_raises(self, "BadLayouts", (), shared, front_habit(3), six, six[0])
        helpers.assert_raises(self, "BadLayouts", (), shared, TURN, ((0, 1, 2), (0, 2, 1)), (0, 1, 2))
        helpers.assert_raises(self, "BadLayouts", (), shared, STILL, ((0, 1),), (1, 0))
        # The layout is looked at between the one and the other.
        helpers.assert_raises(self, "BadLayouts", (), shared, front_habit(3), six[::-1], None)
        helpers.assert_raises(self, "BadLayout", (), shared, front_habit(3), six, None)
        helpers.assert_raises(self, "BadLayout", (), shared, TURN, ((0, 1, 2), (0, 2, 1)), (0, 0, 2))


class LeadingTests(unittest.TestCase):
    def test_random_pairs(self):
        source = random.Random(284)
        told = {True: 0, False: 0}
        for _ in range(500):
            habit, layout = few_layouts(source)
            comes = can_come(habit, layout)
            sources = random_sources(source, habit, layout, 24)
            if source.random() < 0.2:
                sources = tuple(sorted(set(sources) | {helpers.random_layout(source, len(habit))}))
            places = {}
            for one in source.sample(comes, source.randint(len(comes) // 2, len(comes))):
                near = [place for place in range(len(habit)) if touched(habit, one, place) != one]
                places[one] = source.choice(near or [0]) if source.random() < 0.9 else source.randrange(len(habit))
            leads = all(led(habit, places, one, layout) for one in sources)
            told[leads] += 1
            self.assertIs(leads_all(habit, sources, layout, tuple(sorted(places.items()))), leads)
        self.assertGreater(min(told.values()), 100)

    def test_a_pair_for_the_layout_itself(self):
        for place in (0, 1):
            self.assertIs(leads_all(SWAP, ((1, 0),), (0, 1), (((0, 1), place), ((1, 0), 0))), True)
            self.assertIs(leads_all(SWAP, ((0, 1),), (0, 1), (((0, 1), place),)), True)
        self.assertIs(leads_all(SWAP, ((1, 0),), (0, 1), (((0, 1), 0), ((1, 0), 1))), False)
        self.assertIs(leads_all(SWAP, ((1, 0),), (0, 1), (((0, 1), 0),)), False)
        self.assertIs(leads_all(SWAP, ((0, 1),), (0, 1), ()), True)

    def test_any_sources(self):
        # Up to 24, and those that cannot come are not led there.
        everything = tuple(helpers.all_layouts(4))
        habit = neighbour_habit(4)
        pairs = []
        for one in everything[1:]:
            nearer = [place for place in range(4) if distance(habit, touched(habit, one, place), everything[0])
                      < distance(habit, one, everything[0])]
            pairs.append((one, nearer[0]))
        self.assertIs(leads_all(habit, everything, everything[0], tuple(pairs)), True)
        self.assertIs(leads_all(habit, everything, everything[0], ((everything[0], 3),) + tuple(pairs)), True)
        self.assertIs(leads_all(habit, everything, everything[0], tuple(pairs[1:])), False)
        self.assertIs(leads_all(habit, everything[:2], everything[0], tuple(pairs[:1])), True)
        self.assertIs(leads_all(STILL, ((0, 1), (1, 0)), (1, 0), (((0, 1), 0),)), False)
        self.assertIs(leads_all(TURN, ((0, 2, 1),), (0, 1, 2), ()), False)
        # Pairs for layouts that cannot come change nothing.
        self.assertIs(leads_all(TURN, ((2, 0, 1),), (0, 1, 2), (((0, 2, 1), 2), ((2, 0, 1), 0))), True)

    def test_any_value(self):
        good = (((0, 1), 1), ((1, 0), 0))
        self.assertIs(leads_all(SWAP, ((1, 0),), (0, 1), good), True)
        values = list(helpers.ODD) + [
            (), 0, list(good), good[::-1], good + (((1, 0), 1),), (good[1], good[1]), (((1, 0), 0), ((1, 0), 1)),
            (((1, 0), False),), (((1, 0), 2),), (((1, 0), -1),), (((1, 0), None),), (((1, 0),),), (((1, 0), 0, 0),),
            ([(1, 0), 0],), (([1, 0], 0),), (((True, False), 0),), (((1, 1), 0),), (((1, 0, 2), 0),), ((1, 0), 0), dict(good),
            good + (None,), (((1, 0), "0"),), (((1, 0), (0,)),), ((0, (1, 0)),),
        ]
        for value in values:
            self.assertIs(leads_all(SWAP, ((1, 0),), (0, 1), value), False, value)


def slow_sources(habit, layout, program, plan):
    """For each reached instruction the layouts with which it is come to."""
    sources = {at: set() for at in reached(len(habit), program)}
    sources[0].add(layout)
    for at, goal in flow(len(habit), program):
        if goal < len(program):
            ahead = plan[at]
            is_access = program[at][0] in ACCESSES
            sources[goal].add(touched(habit, ahead, ahead[program[at][1]]) if is_access else ahead)
    return {at: tuple(sorted(rows)) for at, rows in sources.items()}


def slow_touches(habit, layout, program, plan):
    sources = slow_sources(habit, layout, program, plan)
    return sum(len(shared(habit, sources[at], plan[at])) for at in sources)


class TouchesTests(unittest.TestCase):
    def test_sum_of_all_instructions(self):
        source = random.Random(285)
        for _ in range(120):
            habit, layout, program = random_case(source, source.randint(2, 5), 10)
            plan = random_plan(source, habit, layout, program)
            touches = shared_touches(habit, layout, program, plan)
            self.assertEqual(touches, slow_touches(habit, layout, program, plan))
            self.assertLessEqual(touches, price(habit, layout, program, plan))

    def test_by_hand(self):
        one, other = (0, 1), (1, 0)
        self.assertEqual(shared_touches(SWAP, one, (("say",),), (one,)), 0)
        self.assertEqual(shared_touches(SWAP, one, (("say",),), (other,)), 1)
        # Both ways to the get come with the layout that it does not want: they share their touch.
        program = (("zero", 2), ("say",), ("get", 0))
        self.assertEqual(price(SWAP, one, program, (one, one, other)), 2)
        self.assertEqual(shared_touches(SWAP, one, program, (one, one, other)), 1)
        self.assertEqual(shared_touches(SWAP, one, program, (one, one, one)), 0)
        # What is not reached and ways to the end need none.
        self.assertEqual(shared_touches(SWAP, one, (("go", 2), ("get", 0)), (one, None)), 0)
        self.assertEqual(shared_touches(SWAP, one, THREE, (one, one, None)), 1)

    def test_plans_that_share_nothing_or_all(self):
        front, start = front_habit(4), (0, 1, 2, 3)
        line = (("get", 3), ("get", 2), ("say",), ("set", 0))
        plan = ((1, 0, 2, 3), start, (3, 2, 1, 0), start)
        self.assertEqual(shared_touches(front, start, line, plan), price(front, start, line, plan))
        # The start, and all ways back, have one layout: they share all touches.
        rounds = (("say",),) + (("zero", 0),) * 9
        plan = ((3, 2, 1, 0),) + (start,) * 9
        self.assertEqual(shared_touches(front, start, rounds, plan), 3 + 3)
        self.assertEqual(price(front, start, rounds, plan), 3 + 3 + 9 * 3)

    def test_more_than_5_sources(self):
        six = tuple(helpers.all_layouts(3))
        front = front_habit(3)
        for many, layouts in ((5, six[:4]), (6, six[:4] + six[:2]), (9, six[:4] * 2 + six[:1])):
            program = (("zero", 0),) * many
            plan = layouts[:many] + (six[0],) * (many - len(layouts))
            self.assertLessEqual(shared_touches(front, six[0], program, plan), 30)
            self.assertTrue(carries(front, six[0], program, written_shared(front, six[0], program, plan)))
        program = (("zero", 0),) * 5
        # With the start they are six, the plan's own layout counted, too.
        for plan in (six[1:], six[1:][::-1]):
            for function in (shared_touches, written_shared):
                helpers.assert_raises(self, "TooMany", (5,), function, front, six[0], program, plan)
                function(front, six[1], program, plan)
        program = (("say",),) + (("zero", 1),) * 6
        for function in (shared_touches, written_shared):
            helpers.assert_raises(self, "TooMany", (5,), function, front, six[0], program, (six[0],) + six)
            function(front, six[0], program, (six[0],) + six[:5] + six[:1])

    def test_wrong_arguments(self):
        rows = [helpers.bad_habits(), helpers.bad_layouts(), helpers.bad_stills(), bad_plans()]
        for function in (shared_touches, written_shared):
            helpers.assert_names_wrong_arguments(self, function, (SWAP, (0, 1), THREE, ((0, 1), (0, 1), None)), rows)
            # Too many sources are told after a wrong plan.
            plan = tuple(helpers.all_layouts(3))[1:]
            helpers.assert_raises(self, "BadPlan", (), function, front_habit(3), (0, 1, 2), (("zero", 0),) * 6, plan)
        rows = [helpers.bad_habits(), helpers.bad_starts(), helpers.bad_layouts()]
        helpers.assert_names_wrong_arguments(self, leads_all, (SWAP, ((1, 0),), (0, 1), None), rows + [[]])
        six = ((0, 1, 2), (0, 2, 1), (1, 0, 2), (1, 2, 0), (2, 0, 1), (2, 1, 0))
        helpers.assert_raises(self, "BadLayouts", (), leads_all, front_habit(5), tuple(helpers.all_layouts(5)[:25]), None, ())
        self.assertIs(leads_all(front_habit(3), six, six[0], ()), False)
        helpers.assert_names_wrong_arguments(self, shared, (SWAP, ((1, 0),), (0, 1)), rows)


class WrittenTests(unittest.TestCase):
    def assert_is_written(self, habit, layout, program, plan):
        restless = written_shared(habit, layout, program, plan)
        self.assertTrue(carries(habit, layout, program, restless), (habit, layout, program, plan))
        touches = len([row for row in restless if row[0] == "touch"])
        self.assertEqual(touches, shared_touches(habit, layout, program, plan))
        return restless

    def test_any_plan(self):
        source = random.Random(286)
        for _ in range(250):
            habit, layout, program = random_case(source, source.randint(2, 5), 12)
            plan = random_plan(source, habit, layout, program)
            restless = self.assert_is_written(habit, layout, program, plan)
            for _ in range(3):
                inputs = tuple(source.randint(-1, 1) for _ in range(source.randint(0, 5)))
                still = run_still(len(habit), program, inputs, 50)
                self.assertTrue(helpers.said_alike(still, run_restless(habit, restless, inputs, 3000)))

    def test_all_plans_of_small_programs(self):
        programs = [
            (("get", 0), ("go", 0)), (("zero", 0), ("get", 1)), (("go", 1), ("go", 0)), (("go", 0),), (("zero", 1), ("set", 0)),
            (("zero", 2), ("get", 0)), (("go", 2), ("say",)), (("stop",), ("go", 0)), (("get", 1), ("zero", 3), ("set", 0)),
            (("zero", 2), ("plus", 1), ("go", 0)), (("zero", 3), ("zero", 0), ("minus", 0)), (("say",), ("zero", 1), ("stop",)),
        ]
        for program in programs:
            for layout in ((0, 1), (1, 0)):
                for plan in all_plans(SWAP, layout, program):
                    self.assert_is_written(SWAP, layout, program, plan)

    def test_programs_of_200(self):
        source = random.Random(287)
        front, start = front_habit(5), (0, 1, 2, 3, 4)
        program = tuple(("zero", min(200, at + source.randint(1, 4))) if at % 2 else ("get", at % 5) for at in range(200))
        self.assert_is_written(front, start, program, random_plan(source, front, start, program))
        self.assert_is_written(front, start, program, (start,) * 200)

    def test_too_long(self):
        habit = ((0, 2, 1, 4, 3), (1, 3, 0, 2, 4)) + ((0, 1, 2, 3, 4),) * 3
        start = (0, 1, 2, 3, 4)
        far = (start, (2, 4, 0, 3, 1), (3, 2, 4, 0, 1))
        # From any two of these layouts the way to the third one is long.
        program = tuple(("zero", at + 2) for at in range(190)) + (("say",),) * 10
        plan = (far * 64)[:190] + (start,) * 10
        left = 4000 - len(self.assert_is_written(habit, start, program, plan))
        self.assertGreater(left, 0)
        # The last two says are led as far as there is room, and one touch further.
        comes = can_come(habit, start)
        last = max(comes, key=lambda other: distance(habit, start, other))
        ways = {(last, one): distance(habit, start, last) + distance(habit, last, one) for one in comes}
        for further in (left - 1, left):
            ends = [pair for pair in ways if ways[pair] == further][0]
            self.assertEqual(len(self.assert_is_written(habit, start, program, plan[:198] + ends)), 4000 - left + further)
        ends = [pair for pair in ways if ways[pair] == left + 1][0]
        helpers.assert_raises(self, "TooMany", (4000,), written_shared, habit, start, program, plan[:198] + ends)
        self.assert_is_written(habit, start, program, (start,) * 200)


class LeastSharedTests(unittest.TestCase):
    def assert_is_first(self, habit, layout, program):
        plans = list(all_plans(habit, layout, program))
        touches = [slow_touches(habit, layout, program, plan) for plan in plans]
        fewest = min(touches)
        self.assertEqual(least_shared(habit, layout, program), (plans[touches.index(fewest)], fewest))
        return fewest

    def test_against_all_plans(self):
        source = random.Random(288)
        sizes = {}
        done = 0
        while done < 60:
            habit, layout = few_layouts(source)
            places, count = len(habit), source.randint(1, 7)
            kinds = ACCESSES + ("zero", "zero", "go")
            words = [source.choice(kinds) for _ in range(count)]
            program = tuple(helpers.random_instruction(source, word, places, count) for word in words)
            if 1 < len(can_come(habit, layout)) ** len(reached(len(habit), program)) < 260:
                done += 1
                fewest = self.assert_is_first(habit, layout, program)
                sizes[min(fewest, 2)] = sizes.get(min(fewest, 2), 0) + 1
        self.assertGreater(min(sizes.get(fewest, 0) for fewest in (0, 1)), 5)

    def test_plans_that_seem_better_than_they_are(self):
        # Some plan has fewer touches to the farthest layout, or fewer layouts to lead, than its ways can share.
        cases = (
            (((0, 1, 2, 3), (3, 1, 0, 2), (0, 1, 2, 3), (3, 1, 2, 0)), (3, 2, 1, 0), (("set", 2), ("zero", 0))),
            (((0, 1, 2, 3), (0, 1, 2, 3), (1, 2, 0, 3), (3, 1, 0, 2)), (1, 3, 0, 2), (("plus", 1), ("zero", 0))),
            (((0, 1, 2, 3), (0, 1, 2, 3), (0, 3, 1, 2), (3, 1, 0, 2)), (2, 1, 0, 3), (("set", 3), ("go", 0))),
        )
        for habit, layout, program in cases:
            self.assertEqual(self.assert_is_first(habit, layout, program), 2)

    def test_by_hand(self):
        one, other = (0, 1), (1, 0)
        self.assertEqual(least_shared(SWAP, one, (("stop",), ("get", 0))), ((one, None), 0))
        self.assertEqual(least_shared(SWAP, other, (("say",),)), ((other,), 0))
        self.assertEqual(least_shared(SWAP, one, LOOP), ((one, one), 1))
        # It needs no more than what is shared of a plan of least price, which it shares still better here.
        program = (("get", 0), ("zero", 3), ("zero", 0), ("get", 1), ("go", 0))
        plan, touches = least_shared(SWAP, one, program)
        self.assertEqual(touches, 1)
        self.assertLessEqual(touches, shared_touches(SWAP, one, program, least_plan(SWAP, one, program)))
        self.assertEqual(touches, shared_touches(SWAP, one, program, plan))

    def test_front_shelves(self):
        source = random.Random(289)
        for count in (1, 2):
            for _ in range(3):
                program = tuple(("get", source.randrange(4)) for _ in range(count)) + (("zero", 0),)
                start = helpers.random_layout(source, 4)
                plan, touches = least_shared(front_habit(4), start, program)
                self.assertEqual(shared_touches(front_habit(4), start, program, plan), touches)
                for _ in range(60):
                    other = random_plan(source, front_habit(4), start, program)
                    needed = shared_touches(front_habit(4), start, program, other)
                    self.assertGreaterEqual((needed, other), (touches, plan))

    def test_as_many_choices_as_may_be(self):
        round_three = ((1, 2, 0),) * 3
        rows = (
            (SWAP, 14, 15), (round_three, 9, 10), (front_habit(4), 3, 4), (front_habit(5), 2, 3), (turning_habit(5), 6, 7),
        )
        for habit, most, too_many in rows:
            layout = tuple(range(len(habit)))
            program = tuple(("get", at % 2) for at in range(most - 1)) + (("go", 0),)
            plan, touches = least_shared(habit, layout, program)
            self.assertEqual(shared_touches(habit, layout, program, plan), touches)
            helpers.assert_raises(self, "TooMany", (20000,), least_shared, habit, layout, (("say",),) * too_many)
            line = (("say",),) * (most - 1) + (("stop",),) + (("say",),) * too_many
            self.assertEqual(least_shared(habit, layout, line), ((layout,) * most + (None,) * too_many, 0))

    def test_more_than_5_sources(self):
        # Of some plans of five jumps to the first instruction the shared touches are not told.
        helpers.assert_raises(self, "TooMany", (5,), least_shared, front_habit(3), (0, 1, 2), (("zero", 0),) * 5)
        helpers.assert_raises(self, "TooMany", (5,), least_shared, front_habit(3), (0, 1, 2), (("zero", 0),) * 4 + (("go", 0),))
        program = (("zero", 0),) * 4
        self.assertEqual(least_shared(front_habit(3), (0, 2, 1), program), (((0, 2, 1),) * 4, 0))
        program = (("zero", 0),) * 4 + (("say",),)
        self.assertEqual(least_shared(front_habit(3), (0, 2, 1), program), (((0, 2, 1),) * 5, 0))
        # With fewer layouts there are never so many.
        self.assertEqual(least_shared(turning_habit(5), (1, 2, 3, 4, 0), (("zero", 0),) * 6), (((1, 2, 3, 4, 0),) * 6, 0))
        # Too many choices are told first.
        helpers.assert_raises(self, "TooMany", (20000,), least_shared, front_habit(3), (0, 1, 2), (("zero", 0),) * 6)

    def test_one_layout(self):
        still = ((0, 1, 2),) * 3
        program = tuple(("get", at % 3) for at in range(199)) + (("go", 0),)
        self.assertEqual(least_shared(still, (2, 0, 1), program), (((2, 0, 1),) * 200, 0))

    def test_wrong_arguments(self):
        rows = [helpers.bad_habits(), helpers.bad_layouts(), helpers.bad_stills()]
        helpers.assert_names_wrong_arguments(self, least_shared, (SWAP, (0, 1), LOOP), rows)
        helpers.assert_raises(self, "BadLayout", (), least_shared, SWAP, (0, 0), (("say",),) * 15)
        helpers.assert_raises(self, "BadProgram", (15,), least_shared, SWAP, (0, 1), (("say",),) * 15 + (("touch", 0),))


if __name__ == "__main__":
    unittest.main()
