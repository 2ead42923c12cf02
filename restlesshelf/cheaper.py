"""Whether some plan costs less than a price, however many layouts there are to choose from (point 8).

Between knots, the joins and the instructions that part, the ways of a program are chains without a choice. So each
plan is a row of layouts of the knots, and what the best layouts along a chain cost follows from those of its two ends.
"""

from restlesshelf.grounds import Ground, spread
from restlesshelf.nets import Net, costs_less
from restlesshelf.planning import Search
from restlesshelf.writing import START


def has_cheaper_plan(habit, layout, program, price):
    """Whether some plan costs less than a price, for values that are checked already."""
    ground = Ground(habit, layout)
    return costs_less(net_of_knots(ground, Search(ground, program)), price)


def net_of_knots(ground, search):
    """The net whose nodes are the knots, with a layout to choose for each."""
    parting = [at for at in search.found if len(search.nexts[at]) > 1 and at not in search.joins]
    knots = list(search.joins) + parting
    net = Net()
    for knot in knots:
        net.add_node(knot, ground.many)
    for root in [START] + knots:
        for goal in search.nexts[root]:
            chain, knot = chain_to_knot(search, knots, goal)
            if knot is not None:
                add_chain(net, ground, search, root, chain, knot)
    return net


def chain_to_knot(search, knots, goal):
    """The instructions from one on up to the next knot, and this knot, None without one."""
    chain = []
    while goal not in knots:
        chain.append(goal)
        if not search.nexts[goal]:
            return chain, None
        goal = search.nexts[goal][0]
    return chain, goal


def add_chain(net, ground, search, root, chain, knot):
    """Adds to a net what a chain from the start or a knot to another knot costs."""
    if root == START:
        net.add_single(knot, costs_along(ground, search, ground.start, chain))
    else:
        net.add_pair(root, knot, [costs_along(ground, search, number, chain) for number in search.behinds[root]])


def costs_along(ground, search, number, chain):
    """What it costs to have each layout behind a chain and its touches, from one layout ahead of them."""
    return spread(search.led_along(number, chain), ground.onward)
