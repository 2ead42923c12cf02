"""Whether some plan costs less than another one, however many layouts there are to choose from (point 8).

Between knots, the joins and the instructions that part, the ways of a program are chains without a choice. So each
plan is a row of layouts of the knots, and what the best layouts along a chain cost follows from those of its two ends.
"""

from restlesshelf.grounds import Ground, spread
from restlesshelf.nets import Net, costs_less
from restlesshelf.planning import Search
from restlesshelf.writing import START


def has_cheaper_plan(habit, layout, program, plan):
    """Whether some plan costs less than one that is checked already."""
    ground = Ground(habit, layout)
    search = Search(ground, program)
    numbers = {at: ground.numbers[plan[at]] for at in search.found}
    pairs = [(root, goal) for root in search.nexts for goal in search.nexts[root]]
    price = price_of_pairs(search, pairs, numbers)
    if price == 0:
        return False
    # Most plans are bettered by one other layout, which is found soon.
    return has_better_layout(search, pairs, numbers) or has_plan_below(search, price)


def price_of_pairs(search, pairs, numbers):
    """How many touches lead from the layout behind the first instruction of each pair to that ahead of the second."""
    ground = search.ground
    price = 0
    for root, goal in pairs:
        behind = ground.start if root == START else search.behinds[root][numbers[root]]
        price += ground.ways[numbers[goal]][behind]
    return price


def has_better_layout(search, pairs, numbers):
    """Whether another layout ahead of a single instruction makes a plan cheaper."""
    for at in search.found:
        near = [pair for pair in pairs if at in pair]
        changed = {one: numbers[one] for pair in near for one in pair if one != START}
        price = price_of_pairs(search, near, changed)
        for number in range(search.ground.many):
            changed[at] = number
            if price_of_pairs(search, near, changed) < price:
                return True
    return False


def has_plan_below(search, bound):
    """Whether some plan costs less than a bound."""
    return costs_less(net_of_knots(search), bound)


def net_of_knots(search):
    """The net whose nodes are the knots, with a layout to choose for each."""
    parting = [at for at in search.found if len(search.nexts[at]) > 1 and at not in search.joins]
    knots = list(search.joins) + parting
    net = Net()
    for knot in knots:
        net.add_node(knot, search.ground.many)
    for root in [START] + knots:
        for goal in search.nexts[root]:
            chain, knot = chain_to_knot(search, knots, goal)
            if knot is not None:
                add_chain(net, search, root, chain, knot)
    return net


def chain_to_knot(search, knots, goal):
    """The instructions from one on up to the next knot, and this knot, None without one."""
    chain = []
    while goal not in knots:
        chain.append(goal)
        if not search.nexts[goal]:
            return chain, None
        goal = search.nexts[goal][0]
    return chain, goal


def add_chain(net, search, root, chain, knot):
    """Adds to a net what a chain from the start or a knot to another knot costs."""
    if root == START:
        net.add_single(knot, costs_along(search, search.ground.start, chain))
    else:
        net.add_pair(root, knot, [costs_along(search, number, chain) for number in search.behinds[root]])


def costs_along(search, number, chain):
    """What it costs to have each layout behind a chain and its touches, from one layout ahead of them."""
    return spread(search.led_along(number, chain), search.ground.onward)
