"""Programs: what they say when they run, and where they go (points 5 and 6)."""

from restlesshelf.checks import (
    JUMPS,
    check_habit,
    check_inputs,
    check_number,
    check_places,
    check_restless,
    check_still,
)
from restlesshelf.flows import flow_of, has_ended, names_used, reached_of

MOST_STILL_STEPS = 5000
MOST_RESTLESS_STEPS = 100000


class Machine:
    """A program at work on a shelf whose books all hold 0 at first."""

    def __init__(self, habit, program, inputs):
        self.habit = habit
        self.program = program
        self.inputs = inputs
        self.asked = 0
        self.holding = [0] * len(habit)
        self.hand = 0
        self.at = 0
        self.said = []

    def is_done(self):
        return has_ended(self.program, self.at)

    def step(self):
        instruction = self.program[self.at]
        word = instruction[0]
        self.at += 1
        if word in JUMPS:
            if word == "go" or self.hand == 0:
                self.at = instruction[1]
        elif word == "put":
            self.hand = instruction[1]
        elif word == "say":
            self.said.append(self.hand)
        elif word == "ask":
            self.hand = self.next_input()
        else:
            self.use(word, instruction[1])

    def next_input(self):
        if self.asked == len(self.inputs):
            return 0
        self.asked += 1
        return self.inputs[self.asked - 1]

    def use(self, word, place):
        """Does an access or a blind touch."""
        if word == "get":
            self.hand = self.holding[place]
        elif word == "plus":
            self.hand += self.holding[place]
        elif word == "minus":
            self.hand -= self.holding[place]
        elif word == "set":
            self.holding[place] = self.hand
        self.be_moved(self.habit[place])

    def be_moved(self, moves):
        held = list(self.holding)
        for stood, goal in enumerate(moves):
            self.holding[goal] = held[stood]


def run(habit, program, inputs, most):
    """What a program says within so many instructions, and how it ends."""
    machine = Machine(habit, program, inputs)
    for _ in range(most):
        if machine.is_done():
            break
        machine.step()
    word = "stopped" if machine.is_done() else "running"
    return (tuple(machine.said), word)


def run_still(places, program, inputs, most):
    """Runs a still program of so many names for at most so many instructions."""
    check_places(places)
    check_still(program, places)
    check_inputs(inputs)
    check_number(most, 0, MOST_STILL_STEPS)
    # A still program is a restless one on a shelf that never moves, with each book at the place of its name.
    never_moves = (tuple(range(places)),) * places
    return run(never_moves, program, inputs, most)


def run_restless(habit, program, inputs, most):
    """Runs a restless program on a shelf of a habit for at most so many instructions."""
    check_habit(habit)
    check_restless(program, len(habit))
    check_inputs(inputs)
    check_number(most, 0, MOST_RESTLESS_STEPS)
    return run(habit, program, inputs, most)


def reached(places, program):
    """The indexes of the instructions to which a still program can come, ascending."""
    check_places(places)
    check_still(program, places)
    return reached_of(program)


def used(places, program):
    """The names of the accesses that a still program can come to, ascending."""
    check_places(places)
    check_still(program, places)
    return names_used(program)


def flow(places, program):
    """The pairs of instructions such that a still program may go on from one to the other, ascending."""
    check_places(places)
    check_still(program, places)
    return flow_of(program)
