"""Whether a restless program carries a still one (point 7)."""

from restlesshelf.checks import check_habit, check_layout, check_restless, check_still
from restlesshelf.flows import has_ended, is_access
from restlesshelf.moves import move

# What stands in the stead of an index where a program does nothing more.
ENDED = -1
FOREVER = -2


def carries(habit, layout, program, restless):
    """Whether a restless program carries a still one from a layout."""
    check_habit(habit)
    check_layout(layout, len(habit))
    check_still(program, len(habit))
    check_restless(restless, len(habit))
    return is_carried(habit, layout, program, restless)


def is_carried(habit, layout, program, restless):
    """Whether a restless program carries a still one, for values that are checked already."""
    start = (0, 0, layout)
    is_met = {start: True}
    waiting = [start]
    while waiting:
        at, restless_at, stood = waiting.pop()
        at, _ = passed_over(habit, program, at, stood)
        restless_at, stands = passed_over(habit, restless, restless_at, stood)
        if at < 0 or restless_at < 0:
            if at != restless_at:
                return False
        else:
            if not do_the_same(program[at], restless[restless_at], stands):
                return False
            for state in states_behind(habit, program, at, restless, restless_at, stands):
                if state not in is_met:
                    is_met[state] = True
                    waiting.append(state)
    return True


def passed_over(habit, program, at, layout):
    """Where a program is behind gos and touches, and the layout then."""
    has_been = {}
    while not has_ended(program, at) and program[at][0] in ("go", "touch"):
        if at in has_been:
            return (FOREVER, layout)
        has_been[at] = True
        word, number = program[at]
        if word == "go":
            at = number
        else:
            layout = move(habit, layout, number)
            at += 1
    return (ENDED if has_ended(program, at) else at, layout)


def do_the_same(instruction, restless_one, layout):
    """Whether an instruction of a restless program does, with this layout, what one of a still program does."""
    if instruction[0] != restless_one[0]:
        return False
    if is_access(instruction):
        return layout[instruction[1]] == restless_one[1]
    if instruction[0] == "zero":
        # Each goes on at an index of its own.
        return True
    return instruction == restless_one


def states_behind(habit, program, at, restless, restless_at, layout):
    """Where both programs may be behind an instruction that they do alike, with the layout then."""
    word = program[at][0]
    if word == "zero":
        return [(at + 1, restless_at + 1, layout), (program[at][1], restless[restless_at][1], layout)]
    if is_access(program[at]):
        layout = move(habit, layout, restless[restless_at][1])
    return [(at + 1, restless_at + 1, layout)]
