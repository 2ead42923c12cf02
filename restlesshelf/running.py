"""What plans cost while programs run (points 60, 61 and 62)."""

from restlesshelf.checks import check_habit, check_inputs, check_number, check_restless
from restlesshelf.flows import flow_of, is_access, reached_of
from restlesshelf.grounds import Ground
from restlesshelf.planning import check_choices, rows_of
from restlesshelf.plans import check_plan_on_shelf, check_program_on_shelf, plan_words
from restlesshelf.programs import MOST_RESTLESS_STEPS, Machine
from restlesshelf.rings import any_ring, has_ring_as_dear, ring_of_greatest_mean
from restlesshelf.writing import START


def touches_on(habit, program, inputs, most):
    """How many accesses and how many blind touches are among the first so many instructions of a run."""
    check_habit(habit)
    check_restless(program, len(habit))
    check_inputs(inputs)
    check_number(most, 0, MOST_RESTLESS_STEPS)
    machine = Machine(habit, program, inputs)
    accesses = touches = 0
    for _ in range(most):
        if machine.is_done():
            break
        instruction = program[machine.at]
        if is_access(instruction):
            accesses += 1
        elif instruction[0] == "touch":
            touches += 1
        machine.step()
    return (accesses, touches)


def way_prices(habit, layout, program, plan):
    """The pairs of flow, but those to the end, with the blind touches from one to the other, ascending."""
    check_plan_on_shelf(habit, layout, program, plan)
    ways = ways_by_plan(habit, layout, program, plan)
    return tuple([(at, goal, ways[at, goal]) for at, goal in sorted(ways)])


def dearest_ring(habit, layout, program, plan):
    """A ring of greatest mean, and its mean; None if there is no ring."""
    check_plan_on_shelf(habit, layout, program, plan)
    return ring_of_greatest_mean(ways_by_plan(habit, layout, program, plan))


def dearest_way(habit, layout, program, plan):
    """A way from the first instruction on with the most blind touches, and how many; None if there is a ring."""
    check_plan_on_shelf(habit, layout, program, plan)
    ways = ways_by_plan(habit, layout, program, plan)
    if any_ring(ways) is not None:
        return None
    words = plan_words(habit, layout, program, plan)
    way, touches = longest_way(ways)
    return (way, touches + len(words[START, 0]))


def calmest_plan(habit, layout, program):
    """A plan whose dearest ring has the least mean, and this mean, None if there is no ring."""
    check_program_on_shelf(habit, layout, program)
    ground = Ground(habit, layout)
    check_choices(ground.many, len(reached_of(program)))
    numbers, mean = calmest_numbers(ground, program)
    layouts = {at: layout for at in reached_of(program)}
    for at in numbers:
        layouts[at] = ground.layouts[numbers[at]]
    return (tuple([layouts.get(at) for at in range(len(program))]), mean)


def ways_by_plan(habit, layout, program, plan):
    """For each pair of flow, but those to the end, how many blind touches a plan needs from one to the other."""
    words = plan_words(habit, layout, program, plan)
    return {pair: len(words[pair]) for pair in words if pair[0] != START}


def longest_way(ways):
    """A way from the first instruction on that costs the most, and what it costs, if there is no ring."""
    costs = {0: 0}
    before = {}
    for at in in_order(ways):
        for one, goal in ways:
            if one == at and costs[at] + ways[one, goal] > costs.get(goal, -1):
                costs[goal] = costs[at] + ways[one, goal]
                before[goal] = at
    way = [max(sorted(costs), key=lambda last: costs[last])]
    while way[-1] in before:
        way.append(before[way[-1]])
    return tuple(way[::-1]), costs[way[0]]


def in_order(ways):
    """The first instruction and all to which ways lead, each behind all from which ways lead to it."""
    arrivals = {}
    for _, goal in ways:
        arrivals[goal] = arrivals.get(goal, 0) + 1
    order = []
    waiting = [0]
    while waiting:
        at = waiting.pop()
        order.append(at)
        for one, goal in ways:
            if one == at:
                arrivals[goal] -= 1
                if arrivals[goal] == 0:
                    waiting.append(goal)
    return order


def pairs_on_rings(program):
    """The pairs of flow from whose second instruction one can come back to the first one."""
    pairs = [(at, goal) for at, goal in flow_of(program) if goal != len(program)]
    return [(at, goal) for at, goal in pairs if at in reached_from(goal, pairs)]


def reached_from(start, pairs):
    """The instructions to which pairs lead from one, this one too."""
    is_found = {start: True}
    waiting = [start]
    while waiting:
        at = waiting.pop()
        for one, goal in pairs:
            if one == at and goal not in is_found:
                is_found[goal] = True
                waiting.append(goal)
    return list(is_found)


def calmest_numbers(ground, program):
    """The layouts of a calmest plan, by numbers, for all instructions on rings, and the mean of its dearest ring."""
    pairs = pairs_on_rings(program)
    best, mean = {}, None
    if pairs:
        on_rings = sorted({at for pair in pairs for at in pair})
        behinds = {at: [ground.behind(program[at], number) for number in range(ground.many)] for at in on_rings}
        for row in rows_of(ground.many, len(on_rings)):
            numbers = dict(zip(on_rings, row))
            ways = {}
            for at, goal in pairs:
                ways[at, goal] = ground.ways[numbers[goal]][behinds[at][numbers[at]]]
            if mean is None or not has_ring_as_dear(ways, mean):
                best = numbers
                mean = ring_of_greatest_mean(ways)[1]
    return best, mean
