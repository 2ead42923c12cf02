"""How a restless program is written out once all its blind touches and places are known."""

from restlesshelf.checks import JUMPS, MOST_RESTLESS
from restlesshelf.errors import TooMany
from restlesshelf.flows import found_in_order, is_access, nexts_of, reached_of

# The start in the stead of an instruction from which the first one is come to.
START = -1


class Draft:
    """A restless program in the making, whose jumps name marks in the stead of indexes."""

    def __init__(self):
        self.rows = []
        self.marks = {}

    def mark(self, name):
        self.marks[name] = len(self.rows)

    def write(self, instruction):
        self.rows.append(instruction)

    def touch_along(self, word):
        self.rows.extend([("touch", place) for place in word])

    def finished(self):
        """The program, with an index for each mark."""
        if len(self.rows) > MOST_RESTLESS:
            raise TooMany(MOST_RESTLESS)
        return tuple([(row[0], self.marks[row[1]]) if row[0] in JUMPS else row for row in self.rows])


def ways_from(program, start, ready, behind, between):
    """What is ahead of each reached instruction, a layout or several, and the blind touches between them.

    An instruction has ahead of it what the first way to it brings, made ready for it; each other way must lead to this.
    ready tells what is made ready for an instruction and the word to it, behind what is behind an instruction, and
    between the word that leads one layout, or several, to another.
    """
    ahead, words = {}, {}
    ahead[0], words[START, 0] = ready(0, start)
    for at in found_in_order(program):
        left = behind(at, ahead[at])
        for goal in nexts_of(program, at):
            if goal == len(program):
                continue
            if goal in ahead:
                words[at, goal] = between(left, ahead[goal])
            else:
                ahead[goal], words[at, goal] = ready(goal, left)
    return ahead, words


def written_out(program, deeds, words):
    """The restless program that does the instructions of a still one that are reached.

    deeds tells for each access the instructions that do it, words the blind touches on the way from one instruction
    to another, both for pairs of flow; no word is needed on a way to the end.
    """
    kept = reached_of(program)
    end = len(program)
    draft = Draft()
    draft.touch_along(words[START, 0])
    for at, following in zip(kept, kept[1:] + (end,)):
        draft.mark(at)
        write_one(draft, program, at, following, deeds, words)
    draft.mark(end)
    draft.write(("stop",))
    for at in kept:
        if zero_turns_aside(program, at, words):
            goal = program[at][1]
            draft.mark(("aside", at))
            draft.touch_along(words[at, goal])
            draft.write(("go", goal))
    return draft.finished()


def write_one(draft, program, at, following, deeds, words):
    """Writes an instruction and its way to the next one, which follows if it is the one that is written then."""
    instruction = program[at]
    word = instruction[0]
    goal = at + 1
    if word == "stop":
        draft.write(instruction)
        return
    if word == "go":
        goal = instruction[1]
    elif word == "zero":
        draft.write(("zero", zero_mark(program, at, words)))
        draft.mark(("behind", at))
    elif is_access(instruction):
        for deed in deeds[at]:
            draft.write(deed)
    else:
        draft.write(instruction)
    draft.touch_along(words.get((at, goal), ()))
    if goal != following:
        draft.write(("go", goal))


def zero_turns_aside(program, at, words):
    """Whether an instruction is a zero whose jump needs blind touches that are written apart."""
    word = program[at][0]
    return word == "zero" and program[at][1] != at + 1 and len(words.get((at, program[at][1]), ())) > 0


def zero_mark(program, at, words):
    """The mark to which a zero jumps."""
    goal = program[at][1]
    if goal == at + 1:
        # Both ways are one pair of flow, whose touches are written once.
        return ("behind", at)
    if zero_turns_aside(program, at, words):
        return ("aside", at)
    return goal
