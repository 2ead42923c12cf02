"""One shelf: point 7, and what point 1 says of its arguments."""

import itertools
import random
import unittest

from restlesshelf.carrying import carries
from restlesshelf.plans import least_plan, written
from restlesshelf.programs import run_restless, run_still
from restlesshelf.shelves import after, can_come, front_habit
from tests import helpers

SWAP = ((1, 0), (1, 0))
STILL = ((0, 1), (0, 1))
FAREWELL = (("say",), ("stop",))


def settle(program, at):
    """The word that a program does next, with the touches ahead of it: an instruction, "ended" or "forever"."""
    touches, been = [], set()
    while at != len(program) and program[at][0] in ("go", "touch"):
        if at in been:
            return "forever", at, ()
        been.add(at)
        if program[at][0] == "touch":
            touches.append(program[at][1])
        at = program[at][1] if program[at][0] == "go" else at + 1
    if at == len(program) or program[at][0] == "stop":
        return "ended", at, ()
    return program[at], at, tuple(touches)


def slow_carries(habit, layout, program, restless):
    """Whether a restless program carries a still one: pairs that are wrong are struck out until none is left."""
    ways = {}
    indexes = itertools.product(range(len(program) + 1), range(len(restless) + 1), can_come(habit, layout))
    for at, other, stood in indexes:
        one, one_at, _ = settle(program, at)
        two, two_at, touches = settle(restless, other)
        stands = after(habit, stood, touches)
        if isinstance(one, str) or isinstance(two, str):
            ways[at, other, stood] = () if one == two else None
        elif one[0] == "zero" == two[0]:
            ways[at, other, stood] = ((one[1], two[1], stands), (one_at + 1, two_at + 1, stands))
        elif one[0] in ("get", "set", "plus", "minus"):
            behind = after(habit, stands, (stands[one[1]],))
            is_same = two == (one[0], stands[one[1]])
            ways[at, other, stood] = ((one_at + 1, two_at + 1, behind),) if is_same else None
        else:
            ways[at, other, stood] = ((one_at + 1, two_at + 1, stands),) if one == two else None
    while True:
        wrong = [state for state, goals in ways.items() if goals and any(ways[goal] is None for goal in goals)]
        if not wrong:
            return ways[0, 0, layout] is not None
        for state in wrong:
            ways[state] = None


class ExampleTests(unittest.TestCase):
    def test_examples(self):
        program = (("set", 0), ("get", 0))
        self.assertIs(carries(SWAP, (0, 1), program, (("set", 0), ("get", 1))), True)
        self.assertIs(carries(SWAP, (0, 1), program, program), False)
        self.assertIs(carries(SWAP, (0, 1), program, (("set", 0), ("touch", 0), ("get", 0))), True)


class CarryTests(unittest.TestCase):
    def carried(self, program, restless, habit=STILL, layout=(0, 1)):
        return carries(habit, layout, program, restless)

    def test_a_program_carries_itself_on_a_still_shelf(self):
        source = random.Random(8)
        for _ in range(100):
            program = helpers.random_program(source, 3, 12)
            self.assertTrue(carries(((0, 1, 2),) * 3, (0, 1, 2), program, program))

    def test_the_layout_tells_the_places(self):
        self.assertTrue(self.carried((("get", 0),), (("get", 1),), layout=(1, 0)))
        self.assertFalse(self.carried((("get", 0),), (("get", 0),), layout=(1, 0)))

    def test_instructions_must_be_the_same(self):
        for one, other in itertools.permutations(
            [("get", 0), ("set", 0), ("plus", 0), ("minus", 0), ("put", 0), ("put", 1), ("say",), ("ask",), ("stop",)], 2
        ):
            self.assertFalse(self.carried((one,), (other,)))
        self.assertFalse(self.carried((("zero", 1),), (("say",),)))
        self.assertFalse(self.carried((("zero", 1),), (("go", 1),)))
        self.assertFalse(self.carried((("get", 0),), (("get", 1),)))

    def test_gos_and_touches_are_passed_over(self):
        restless = (("go", 2), ("stop",), ("touch", 1), ("go", 4), ("say",), ("touch", 0), ("stop",))
        self.assertTrue(self.carried((("say",),), restless))
        self.assertTrue(self.carried((("go", 2), ("stop",), ("say",)), (("say",),)))
        self.assertFalse(self.carried((("go", 1), ("stop",), ("say",)), (("say",),)))

    def test_touches_move_the_books_of_the_restless_one(self):
        self.assertTrue(self.carried((("get", 0),), (("touch", 0), ("get", 1)), SWAP))
        self.assertFalse(self.carried((("get", 0),), (("touch", 0), ("get", 0)), SWAP))

    def test_an_end_is_a_stop(self):
        for one, other in itertools.product([(("say",),), FAREWELL, (("say",), ("go", 2)), (("say",), ("go", 1))], repeat=2):
            self.assertEqual(self.carried(one, other), (one[1:] == (("go", 1),)) == (other[1:] == (("go", 1),)))

    def test_round_for_ever(self):
        self.assertTrue(self.carried((("go", 0),), (("touch", 0), ("go", 0)), SWAP))
        self.assertTrue(self.carried((("go", 1), ("go", 0)), (("go", 0),)))
        self.assertFalse(self.carried((("go", 0),), (("stop",),)))
        self.assertFalse(self.carried((("stop",),), (("touch", 0), ("go", 0)), SWAP))
        self.assertFalse(self.carried((("go", 0),), (("say",), ("go", 0))))
        self.assertTrue(self.carried((("say",), ("go", 0)), (("say",), ("say",), ("go", 0))))

    def test_zeros_go_the_same_way(self):
        program = (("zero", 2), ("say",), ("ask",))
        self.assertTrue(self.carried(program, (("zero", 3), ("say",), ("go", 3), ("ask",))))
        self.assertFalse(self.carried(program, (("zero", 1), ("say",), ("ask",))))
        self.assertFalse(self.carried(program, (("zero", 3), ("say",), ("stop",), ("ask",))))
        self.assertTrue(self.carried((("zero", 0), ("stop",)), (("zero", 0), ("go", 2))))

    def test_zeros_go_round_with_all_layouts(self):
        program = (("get", 0), ("zero", 0), ("get", 1))
        self.assertFalse(self.carried(program, (("get", 0), ("zero", 3), ("get", 0), ("touch", 0), ("go", 0)), SWAP))
        restless = (("get", 0), ("zero", 5), ("get", 0), ("stop",), ("stop",), ("touch", 0), ("go", 0))
        self.assertTrue(self.carried(program, restless, SWAP))
        self.assertFalse(self.carried(program, restless[:5] + (("go", 0),), SWAP))

    def test_what_is_not_reached_does_not_matter(self):
        self.assertTrue(self.carried((("stop",), ("get", 0)), (("stop",), ("get", 1), ("touch", 0))))

    def test_restless_programs_of_4000(self):
        self.assertTrue(self.carried((("say",),), (("touch", 0),) * 3999 + (("say",),), SWAP))
        self.assertTrue(self.carried((("say",),) * 200, (("say",),) * 200 + (("stop",),) * 3800))
        helpers.assert_raises(self, "BadProgram", (None,), carries, SWAP, (0, 1), (("say",),), (("say",),) * 4001)

    def test_against_striking_out(self):
        source = random.Random(9)
        count = {True: 0, False: 0}
        for _ in range(400):
            places = source.choice((2, 2, 3))
            habit = helpers.random_habit(source, places)
            layout = helpers.random_layout(source, places)
            program = helpers.random_program(source, places, 5)
            restless = list(written(habit, layout, program, least_plan(habit, layout, program)))
            for _ in range(source.randint(0, 2)):
                at = source.randrange(len(restless))
                restless[at] = source.choice(helpers.random_restless(source, places, len(restless)))
                if restless[at][0] in ("go", "zero"):
                    restless[at] = (restless[at][0], source.randint(0, len(restless)))
            answer = carries(habit, layout, program, tuple(restless))
            self.assertEqual(answer, slow_carries(habit, layout, program, tuple(restless)))
            count[answer] += 1
        self.assertGreater(min(count.values()), 50)

    def test_what_is_carried_says_the_same(self):
        source = random.Random(10)
        carried = 0
        while carried < 100:
            habit = helpers.random_habit(source, 2)
            layout = helpers.random_layout(source, 2)
            program = helpers.random_program(source, 2, 4)
            restless = helpers.random_restless(source, 2, 5)
            if carries(habit, layout, program, restless):
                carried += 1
                for inputs in ((), (1,), (0, 2), (2, -1, 0, 1)):
                    still = run_still(2, program, inputs, 100)
                    self.assertTrue(helpers.said_alike(still, run_restless(habit, restless, inputs, 5000)))

    def test_wrong_arguments(self):
        rows = [helpers.bad_habits(), helpers.bad_layouts(), helpers.bad_stills(), helpers.bad_restlesses()]
        good = (SWAP, (0, 1), (("say",),), (("touch", 0), ("say",)))
        helpers.assert_names_wrong_arguments(self, carries, good, rows)

    def test_programs_for_other_shelves(self):
        front = front_habit(3)
        self.assertTrue(carries(front, (0, 1, 2), (("get", 2),), (("get", 2),)))
        helpers.assert_raises(self, "BadProgram", (0,), carries, front, (0, 1, 2), (("get", 3),), (("get", 2),))
        helpers.assert_raises(self, "BadProgram", (1,), carries, front, (0, 1, 2), (("get", 2),), (("say",), ("get", 3)))
        helpers.assert_raises(self, "BadLayout", (), carries, front, (0, 1), (("get", 2),), (("get", 3),))


if __name__ == "__main__":
    unittest.main()
