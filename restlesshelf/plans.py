"""Plans of still programs on one shelf, and the programs that are written out by them (point 8)."""

from restlesshelf.cheaper import has_cheaper_plan
from restlesshelf.checks import check_habit, check_layout, check_still, is_layout
from restlesshelf.errors import BadPlan
from restlesshelf.flows import flow_of, is_access, reached_of
from restlesshelf.moves import layout_depths, move, word_to_layout
from restlesshelf.planning import plan_of_least_price
from restlesshelf.writing import START, written_out


def price(habit, layout, program, plan):
    """How many blind touches a plan costs, each way from instruction to instruction counted once."""
    check_plan_on_shelf(habit, layout, program, plan)
    return price_of(habit, layout, program, plan)


def least_plan(habit, layout, program):
    """A plan of least price."""
    check_program_on_shelf(habit, layout, program)
    return plan_of_least_price(habit, layout, program)


def shows_least_plan(habit, layout, program, value):
    """Whether a value is a plan of least price."""
    check_program_on_shelf(habit, layout, program)
    if not is_plan(habit, layout, program, value):
        return False
    # No error for too many choices, which only what looks for a plan without being shown one may raise.
    return not has_cheaper_plan(habit, layout, program, value)


def written(habit, layout, program, plan):
    """A restless program that carries a still one, with no more blind touches than the plan's price."""
    check_plan_on_shelf(habit, layout, program, plan)
    kept = [at for at in reached_of(program) if is_access(program[at])]
    deeds = {at: ((program[at][0], plan[at][program[at][1]]),) for at in kept}
    return written_out(program, deeds, plan_words(habit, layout, program, plan))


def check_program_on_shelf(habit, layout, program):
    check_habit(habit)
    check_layout(layout, len(habit))
    check_still(program, len(habit))


def check_plan(habit, layout, program, plan):
    if not is_plan(habit, layout, program, plan):
        raise BadPlan("no plan of the program from the layout")


def check_plan_on_shelf(habit, layout, program, plan):
    check_program_on_shelf(habit, layout, program)
    check_plan(habit, layout, program, plan)


def is_plan(habit, layout, program, value):
    """Whether a value is a plan of a program from a layout."""
    if not isinstance(value, tuple) or len(value) != len(program):
        return False
    is_reached = {at: True for at in reached_of(program)}
    may_come = layout_depths(habit, layout)
    for at, ahead in enumerate(value):
        if at not in is_reached:
            if ahead is not None:
                return False
        elif not is_layout(ahead, len(habit)) or ahead not in may_come:
            return False
    return True


def plan_words(habit, layout, program, plan):
    """For each pair of flow, but those to the end, the blind touches by which a plan leads one to the other."""
    words = {(START, 0): word_to_layout(habit, layout, plan[0])}
    for at, goal in flow_of(program):
        if goal != len(program):
            behind = layout_behind(habit, plan[at], program[at])
            words[at, goal] = word_to_layout(habit, behind, plan[goal])
    return words


def layout_behind(habit, layout, instruction):
    """The layout behind an instruction of a still program with a layout ahead of it."""
    if is_access(instruction):
        return move(habit, layout, layout[instruction[1]])
    return layout


def price_of(habit, layout, program, plan):
    """The price of a plan that is checked already."""
    return sum([len(word) for word in plan_words(habit, layout, program, plan).values()])
