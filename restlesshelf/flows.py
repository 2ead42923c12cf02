"""How programs go on from instruction to instruction, for programs that are checked already."""

from restlesshelf.checks import ACCESSES


def is_access(instruction):
    return instruction[0] in ACCESSES


def has_ended(program, at):
    """Whether a program is at a stop or at its end."""
    return at == len(program) or program[at] == ("stop",)


def nexts_of(program, at):
    """Where a program may go on from an instruction, ascending, the end included."""
    word = program[at][0]
    if word == "stop":
        return ()
    if word == "go":
        return (program[at][1],)
    if word == "zero":
        return tuple(sorted({at + 1, program[at][1]}))
    return (at + 1,)


def found_in_order(program):
    """The reached instructions in the order in which a search from the first one finds them."""
    is_found = {0: True}
    level = [0]
    while level:
        further = []
        for at in level:
            for goal in nexts_of(program, at):
                if goal != len(program) and goal not in is_found:
                    is_found[goal] = True
                    further.append(goal)
        level = further
    return tuple(is_found)


def reached_of(program):
    """The reached instructions, ascending."""
    return tuple(sorted(found_in_order(program)))


def names_used(program):
    """The names of the accesses among the reached instructions, ascending."""
    accesses = [program[at] for at in found_in_order(program) if is_access(program[at])]
    return tuple(sorted({name for _, name in accesses}))


def flow_of(program):
    """The pairs of a reached instruction and one to which it may go on, ascending, the end included."""
    return tuple([(at, goal) for at in reached_of(program) for goal in nexts_of(program, at)])
