"""Programs: points 5 and 6, and what point 1 says of their arguments."""

import random
import unittest

from restlesshelf.errors import BadProgram
from restlesshelf.programs import flow, reached, run_restless, run_still, used
from restlesshelf.shelves import after, front_habit
from tests import helpers

SWAP = ((1, 0), (0, 1))
SUMS = (("ask",), ("zero", 5), ("plus", 0), ("set", 0), ("go", 0), ("get", 0), ("say",))


def slow_run(habit, program, inputs, most):
    """A run of a program, by books that stand where a layout tells."""
    layout = tuple(range(len(habit)))
    held, hand, at, said, left = [0] * len(habit), 0, 0, [], list(inputs)
    for _ in range(most):
        if at == len(program) or program[at][0] == "stop":
            break
        word, *rest = program[at]
        at += 1
        if word == "go" or (word == "zero" and hand == 0):
            at = rest[0]
        if word in ("get", "set", "plus", "minus", "touch"):
            book = layout.index(rest[0])
            if word == "set":
                held[book] = hand
            hand = {"get": held[book], "plus": hand + held[book], "minus": hand - held[book]}.get(word, hand)
            layout = after(habit, layout, (rest[0],))
        if word == "put":
            hand = rest[0]
        if word == "ask":
            hand = left.pop(0) if left else 0
        if word == "say":
            said.append(hand)
    is_done = at == len(program) or program[at][0] == "stop"
    return tuple(said), "stopped" if is_done else "running"


def slow_flow(program):
    """The reached instructions and the pairs of flow, by following all ways."""
    met, pairs, waiting = set(), set(), [0]
    while waiting:
        at = waiting.pop()
        if at in met or at == len(program):
            continue
        met.add(at)
        word, *rest = program[at]
        goals = {"stop": [], "go": rest, "zero": rest + [at + 1]}.get(word, [at + 1])
        pairs |= {(at, goal) for goal in goals}
        waiting += goals
    return tuple(sorted(met)), tuple(sorted(pairs))


class ExampleTests(unittest.TestCase):
    def test_examples(self):
        self.assertEqual(run_still(2, SUMS, (3, 4, 5), 100), ((12,), "stopped"))
        self.assertEqual(run_still(2, SUMS, (3, 4, 5), 3), ((), "running"))
        self.assertEqual(used(2, SUMS), (0,))
        self.assertEqual(reached(2, (("go", 2), ("say",), ("stop",))), (0, 2))
        self.assertEqual(flow(2, (("zero", 0), ("say",))), ((0, 0), (0, 1), (1, 2)))
        restless = (("put", 7), ("set", 0), ("get", 1), ("say",))
        self.assertEqual(run_restless(((1, 0), (1, 0)), restless, (), 9), ((7,), "stopped"))
        with self.assertRaises(BadProgram) as caught:
            run_still(2, (("touch", 0),), (), 9)
        self.assertEqual(caught.exception.index, 0)


class StillRunTests(unittest.TestCase):
    def said(self, program, inputs=(), most=5000, places=2):
        return run_still(places, program, inputs, most)

    def test_each_instruction(self):
        rows = (("put", 5), ("set", 0), ("put", 3), ("set", 1), ("plus", 0), ("say",), ("minus", 1), ("minus", 1))
        self.assertEqual(self.said(rows + (("say",), ("get", 1), ("say",))), ((8, 2, 3), "stopped"))

    def test_all_is_0_at_first(self):
        self.assertEqual(self.said((("say",), ("get", 1), ("say",), ("get", 0), ("say",))), ((0, 0, 0), "stopped"))

    def test_books_and_hand_keep_what_they_hold(self):
        program = (("put", -4), ("set", 4), ("say",), ("put", 0), ("get", 4), ("get", 4), ("say",))
        self.assertEqual(self.said(program, places=5), ((-4, -4), "stopped"))

    def test_inputs_run_out(self):
        program = (("ask",), ("say",)) * 3
        self.assertEqual(self.said(program, (4, -1000000)), ((4, -1000000, 0), "stopped"))
        self.assertEqual(self.said(program[:2] * 51, tuple(range(50))), (tuple(range(50)) + (0,), "stopped"))
        self.assertEqual(self.said(program, (1000000,)), ((1000000, 0, 0), "stopped"))

    def test_puts_at_their_bounds(self):
        self.assertEqual(self.said((("put", 1000000), ("say",), ("put", -1000000), ("say",)))[0], (1000000, -1000000))

    def test_zero_goes_on_either_way(self):
        program = (("ask",), ("zero", 4), ("say",), ("stop",), ("put", 9), ("say",))
        self.assertEqual(self.said(program, (0,)), ((9,), "stopped"))
        self.assertEqual(self.said(program, (-1,)), ((-1,), "stopped"))

    def test_jumps_to_the_end(self):
        self.assertEqual(self.said((("go", 2), ("say",))), ((), "stopped"))
        self.assertEqual(self.said((("zero", 2), ("say",))), ((), "stopped"))
        self.assertEqual(self.said((("go", 1),), most=1), ((), "stopped"))
        self.assertEqual(self.said((("go", 1),), most=0), ((), "running"))

    def test_running_and_stopped(self):
        self.assertEqual(self.said((("stop",), ("say",)), most=0), ((), "stopped"))
        self.assertEqual(self.said((("say",), ("stop",)), most=1), ((0,), "stopped"))
        self.assertEqual(self.said((("say",), ("stop",)), most=0), ((), "running"))
        self.assertEqual(self.said((("say",), ("say",)), most=2), ((0, 0), "stopped"))
        self.assertEqual(self.said((("say",), ("say",)), most=1), ((0,), "running"))
        self.assertEqual(self.said((("go", 0),), most=5000), ((), "running"))
        self.assertEqual(self.said((("say",), ("go", 0)), most=5000), ((0,) * 2500, "running"))

    def test_programs_of_1_and_200(self):
        self.assertEqual(self.said((("say",),)), ((0,), "stopped"))
        self.assertEqual(self.said((("say",),) * 200), ((0,) * 200, "stopped"))
        helpers.assert_raises(self, "BadProgram", (None,), run_still, 2, (("say",),) * 201, (), 9)
        helpers.assert_raises(self, "BadProgram", (None,), run_still, 2, (), (), 9)

    def test_numbers_grow_without_bound(self):
        program = (("put", 1), ("set", 0)) + (("plus", 0), ("set", 0)) * 90 + (("say",),)
        self.assertEqual(self.said(program), ((2 ** 90,), "stopped"))

    def test_against_a_slow_run(self):
        source = random.Random(5)
        for _ in range(300):
            places = source.randint(2, 5)
            program = helpers.random_program(source, places, 12)
            inputs = tuple(source.randint(-2, 2) for _ in range(source.randint(0, 5)))
            most = source.choice((0, 1, 2, 5, 20, 60))
            still = (tuple(range(places)),) * places
            self.assertEqual(run_still(places, program, inputs, most), slow_run(still, program, inputs, most))

    def test_wrong_arguments(self):
        rows = [helpers.bad_numbers(2, 5), helpers.bad_stills(), helpers.bad_inputs(), helpers.bad_numbers(0, 5000)]
        helpers.assert_names_wrong_arguments(self, run_still, (2, (("say",),), (1,), 5), rows)

    def test_names_and_jumps_beyond_their_bounds(self):
        self.assertEqual(self.said((("get", 2),), places=3), ((), "stopped"))
        helpers.assert_raises(self, "BadProgram", (1,), run_still, 3, (("get", 2), ("get", 3)), (), 9)
        helpers.assert_raises(self, "BadProgram", (1,), run_still, 3, (("go", 2), ("go", 3)), (), 9)


class RestlessRunTests(unittest.TestCase):
    def test_what_is_touched_is_read_before_it_moves(self):
        program = (("put", 5), ("set", 0), ("get", 0), ("say",), ("get", 1), ("say",))
        self.assertEqual(run_restless(SWAP, program, (), 99), ((0, 0), "stopped"))
        program = (("put", 5), ("set", 0), ("get", 1), ("say",), ("plus", 1), ("say",))
        self.assertEqual(run_restless(SWAP, program, (), 99), ((5, 10), "stopped"))

    def test_touches_read_and_write_nothing(self):
        program = (("put", 5), ("set", 1), ("touch", 0), ("say",), ("get", 0), ("say",))
        self.assertEqual(run_restless(SWAP, program, (), 99), ((5, 5), "stopped"))

    def test_other_instructions_move_nothing(self):
        program = (("put", 5), ("set", 1), ("put", 0), ("zero", 4), ("go", 5), ("ask",), ("say",), ("get", 1), ("say",))
        self.assertEqual(run_restless(SWAP, program, (3,), 99), ((3, 5), "stopped"))

    def test_touches_count_as_instructions(self):
        program = (("touch", 0), ("touch", 0), ("say",))
        self.assertEqual(run_restless(SWAP, program, (), 2), ((), "running"))
        self.assertEqual(run_restless(SWAP, program, (), 3), ((0,), "stopped"))

    def test_programs_of_4000_and_4001(self):
        self.assertEqual(run_restless(SWAP, (("touch", 0),) * 3999 + (("say",),), (), 4000), ((0,), "stopped"))
        helpers.assert_raises(self, "BadProgram", (None,), run_restless, SWAP, (("say",),) * 4001, (), 9)

    def test_as_many_instructions_as_may_be(self):
        self.assertEqual(run_restless(SWAP, (("touch", 0), ("go", 0)), (), 100000), ((), "running"))

    def test_against_a_slow_run(self):
        source = random.Random(6)
        for _ in range(300):
            places = source.randint(2, 5)
            habit = helpers.random_habit(source, places)
            program = helpers.random_program(source, places, 12)
            program = tuple(("touch", 0) if row == ("ask",) and source.random() < 0.7 else row for row in program)
            inputs = tuple(source.randint(-2, 2) for _ in range(source.randint(0, 5)))
            most = source.choice((0, 1, 2, 5, 20, 60))
            self.assertEqual(run_restless(habit, program, inputs, most), slow_run(habit, program, inputs, most))

    def test_wrong_arguments(self):
        rows = [helpers.bad_habits(), helpers.bad_restlesses(), helpers.bad_inputs(), helpers.bad_numbers(0, 100000)]
        helpers.assert_names_wrong_arguments(self, run_restless, (SWAP, (("touch", 1),), (), 5), rows)

    def test_places_of_the_shelf(self):
        self.assertEqual(run_restless(front_habit(5), (("touch", 4),), (), 5), ((), "stopped"))
        helpers.assert_raises(self, "BadProgram", (0,), run_restless, front_habit(4), (("touch", 4),), (), 5)


class FlowTests(unittest.TestCase):
    def test_against_all_ways(self):
        source = random.Random(7)
        for _ in range(300):
            program = helpers.random_program(source, 3, 14)
            met, pairs = slow_flow(program)
            self.assertEqual(reached(3, program), met)
            self.assertEqual(flow(3, program), pairs)
            accesses = [program[at] for at in met if program[at][0] in ("get", "set", "plus", "minus")]
            self.assertEqual(used(3, program), tuple(sorted({row[1] for row in accesses})))

    def test_a_stop_goes_nowhere(self):
        self.assertEqual(flow(2, (("stop",), ("say",))), ())
        self.assertEqual(reached(2, (("stop",), ("say",))), (0,))

    def test_pairs_are_unlike(self):
        self.assertEqual(flow(2, (("zero", 1), ("zero", 2))), ((0, 1), (1, 2)))
        self.assertEqual(flow(2, (("zero", 2), ("stop",))), ((0, 1), (0, 2)))

    def test_not_reached_accesses_are_not_used(self):
        program = (("get", 2), ("go", 3), ("set", 0), ("minus", 1), ("stop",), ("plus", 0))
        self.assertEqual(used(3, program), (1, 2))
        self.assertEqual(used(3, (("say",),)), ())

    def test_accesses_of_each_kind_are_used(self):
        program = (("get", 0), ("set", 1), ("plus", 2), ("minus", 3))
        self.assertEqual(used(5, program), (0, 1, 2, 3))

    def test_wrong_arguments(self):
        for function in (reached, used, flow):
            rows = [helpers.bad_numbers(2, 5), helpers.bad_stills()]
            helpers.assert_names_wrong_arguments(self, function, (2, (("say",), ("get", 1))), rows)


if __name__ == "__main__":
    unittest.main()
