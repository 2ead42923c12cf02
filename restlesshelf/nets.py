"""Nets of choices: nodes with costs for each of their choices, and for each pair of choices of two of them.

Costs are moved about in a net so that what is sure to be paid becomes known early; what each row of choices, one for
each node, costs in all is never changed by that.
"""


def sums_of(one, other):
    return [low + high for low, high in zip(one, other)]


def turned(rows):
    return [list(column) for column in zip(*rows)]


def led_together(one, other):
    """The least sums along a middle node, for each row of costs to it from one side and from the other."""
    return [[min(sums_of(row, column)) for column in other] for row in one]


class Net:
    """The nodes that are left, and what is sure to be paid whatever they choose.

    single has a list of costs for each node, near[one][other] for each near pair a list, by the choices of the
    first one, of lists of costs by those of the other one.
    """

    def __init__(self):
        self.sure = 0
        self.single = {}
        self.near = {}

    def add_node(self, node, many):
        self.single[node] = [0] * many
        self.near[node] = {}

    def add_single(self, node, costs):
        self.single[node] = sums_of(self.single[node], costs)

    def add_pair(self, one, other, rows):
        if one == other:
            self.add_single(one, [row[at] for at, row in enumerate(rows)])
            return
        if other in self.near[one]:
            rows = [sums_of(row, more) for row, more in zip(rows, self.near[one][other])]
        self.set_pair(one, other, rows)

    def set_pair(self, one, other, rows):
        self.near[one][other] = rows
        self.near[other][one] = turned(rows)

    def drop_node(self, node):
        for other in list(self.near[node]):
            del self.near[other][node]
        del self.near[node]
        del self.single[node]

    def with_choice(self, node, choice):
        """The net that is left if a node makes a choice."""
        twin = Net()
        twin.sure = self.sure + self.single[node][choice]
        twin.single = dict(self.single)
        twin.near = {one: dict(self.near[one]) for one in self.near}
        for other in self.near[node]:
            twin.add_single(other, self.near[node][other][choice])
        twin.drop_node(node)
        return twin

    def settle(self, bound):
        """Takes out nodes, and choices with which a bound cannot be kept below, until it finds no more."""
        many = None
        while self.sure < bound and many != self.choices_left():
            many = self.choices_left()
            self.take_out_nodes()
            nodes = list(self.single)
            self.sweep(nodes, bound)
            self.sweep(nodes[::-1], bound)

    def choices_left(self):
        return sum([len(costs) for costs in self.single.values()])

    def take_out_nodes(self):
        """Takes out the nodes with at most two near ones: what they choose best follows from these."""
        waiting = list(self.single)
        while waiting:
            node = waiting.pop()
            if node in self.single and len(self.near[node]) < 3:
                others = list(self.near[node])
                self.take_out(node, others)
                waiting.extend(others)

    def take_out(self, node, others):
        costs = self.single[node]
        if not others:
            self.sure += min(costs)
            self.drop_node(node)
            return
        ways = [sums_of(row, costs) for row in self.near[others[0]][node]]
        if len(others) == 1:
            self.add_single(others[0], [min(row) for row in ways])
            self.drop_node(node)
        else:
            rows = led_together(ways, self.near[others[1]][node])
            self.drop_node(node)
            self.add_pair(others[0], others[1], rows)

    def sweep(self, nodes, bound):
        """Moves costs on from each node to the later ones."""
        for at, node in enumerate(nodes):
            self.drop_choices(node, bound)
            self.sure += self.lifted(node)
            if self.sure >= bound:
                return
            for other in nodes[at + 1:]:
                if other in self.near[node]:
                    self.move_on(node, other)

    def lifted(self, node):
        """The least cost of a node's choices, which is taken from all of them."""
        least = min(self.single[node])
        self.single[node] = [cost - least for cost in self.single[node]]
        return least

    def drop_choices(self, node, bound):
        """Drops the choices with which a bound cannot be kept below, but for the cheapest one."""
        costs = self.single[node]
        kept = [at for at, cost in enumerate(costs) if self.sure + cost < bound]
        if not kept:
            kept = [costs.index(min(costs))]
        if len(kept) < len(costs):
            self.single[node] = [costs[at] for at in kept]
            for other in list(self.near[node]):
                rows = self.near[node][other]
                self.set_pair(node, other, [rows[at] for at in kept])

    def move_on(self, node, other):
        """Moves all costs of a node's own, and those of the pair, as far as can be to another node."""
        rows = [[cost + own for cost in row] for own, row in zip(self.single[node], self.near[node][other])]
        least = [min(column) for column in zip(*rows)]
        self.single[node] = [0] * len(rows)
        self.add_single(other, least)
        self.set_pair(node, other, [[cost - low for cost, low in zip(row, least)] for row in rows])

    def narrowest(self):
        """The node with the fewest choices, and of those with as few the one with the most near ones."""
        return min(list(self.single), key=lambda node: (len(self.single[node]), -len(self.near[node])))


def costs_less(net, bound):
    """Whether some choices in a net cost less than a bound; the net is used up."""
    net.settle(bound)
    if net.sure >= bound or not net.single:
        return net.sure < bound
    node = net.narrowest()
    costs = net.single[node]
    for choice in sorted(list(range(len(costs))), key=lambda at: costs[at]):
        if costs_less(net.with_choice(node, choice), bound):
            return True
    return False
