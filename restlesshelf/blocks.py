"""Block programs, and what they say when they are played (point 40)."""

from restlesshelf.blockforms import check_block_program
from restlesshelf.checks import check_inputs, check_number

MOST_DOINGS = 5000


class Player:
    """A block program that is played, whose names all hold 0 at first, for at most so many doings.

    Each of its ways to do something returns whether it goes on behind that.
    """

    def __init__(self, program, inputs, most):
        names, procedures, _ = program
        self.worths = {name: 0 for name in names}
        self.bodies = dict(procedures)
        self.inputs = inputs
        self.asked = 0
        self.doings_left = most
        self.has_run_out = False
        self.said = []

    def may_do(self):
        """Counts a doing, if there is one left."""
        if self.doings_left == 0:
            self.has_run_out = True
            return False
        self.doings_left -= 1
        return True

    def do_block(self, block):
        for part in block:
            if not self.do_part(part):
                return False
        return True

    def do_part(self, part):
        word = part[0]
        if word == "while":
            return self.do_while(part)
        if not self.may_do() or word == "stop":
            return False
        if word == "if":
            return self.do_block(part[2] if self.holds(part[1]) else part[3])
        if word == "repeat":
            return self.do_rounds(part[1], part[2])
        if word == "do":
            return self.do_block(self.bodies[part[1]])
        if word == "let":
            self.worths[part[1]] = self.worth(part[2])
        elif word == "say":
            self.said.append(self.worth(part[1]))
        else:
            self.worths[part[1]] = self.next_input()
        return True

    def do_while(self, part):
        while True:
            if not self.may_do():
                return False
            if not self.holds(part[1]):
                return True
            if not self.do_block(part[2]):
                return False

    def do_rounds(self, many, block):
        for _ in range(many):
            if not self.do_block(block):
                return False
        return True

    def holds(self, test):
        return (self.worth(test[0]) == 0) == test[1]

    def worth(self, value):
        """What a sum says."""
        if isinstance(value, int):
            return value
        if isinstance(value, str):
            return self.worths[value]
        first, second = self.worth(value[1]), self.worth(value[2])
        return first + second if value[0] == "plus" else first - second

    def next_input(self):
        if self.asked == len(self.inputs):
            return 0
        self.asked += 1
        return self.inputs[self.asked - 1]


def play(program, inputs, most):
    """What a block program says within so many doings, and how it ends."""
    check_block_program(program)
    check_inputs(inputs)
    check_number(most, 0, MOST_DOINGS)
    player = Player(program, inputs, most)
    player.do_block(program[2])
    return (tuple(player.said), "running" if player.has_run_out else "stopped")
