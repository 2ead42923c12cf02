"""The search for a plan of least price (point 8).

A join is an instruction to which there is more than one way. Once the layouts ahead of all joins are chosen, the other
instructions hang below the joins and the start as trees, and each tree's best layouts can be found from its leaves up.
So all choices for the joins are tried, with tables for what each tree costs by the joins that it goes on to.
"""

from restlesshelf.errors import TooMany
from restlesshelf.flows import flow_of, found_in_order, is_access, nexts_of
from restlesshelf.grounds import FAR, Ground, spread
from restlesshelf.writing import START

MOST_CHOICES = 20000


def joins_of(program):
    """The reached instructions to which there is more than one way, the start counted as one, ascending."""
    arrivals = {0: 1}
    for _, goal in flow_of(program):
        arrivals[goal] = arrivals.get(goal, 0) + 1
    return tuple([at for at in sorted(arrivals) if arrivals[at] > 1 and at != len(program)])


def check_choices(layouts, joins):
    """Raises the error for too many choices of so many layouts for so many joins."""
    choices = 1
    for _ in range(joins):
        choices *= layouts
        if choices > MOST_CHOICES:
            raise TooMany(MOST_CHOICES)


def rows_of(many, length):
    """All tuples of so many numbers below many."""
    rows = [()]
    for _ in range(length):
        rows = [row + (number,) for row in rows for number in range(many)]
    return rows


class Search:
    """The search for the least plan of one program on one ground.

    A table is a pair: a tuple of joins, and a dict that has, for each row of their layouts, a list of what it costs
    from each layout on. All layouts are told by their numbers.
    """

    def __init__(self, ground, program):
        self.ground = ground
        self.program = program
        self.joins = joins_of(program)
        self.found = found_in_order(program)
        self.nexts = {START: (0,)}
        self.behinds = {}
        for at in self.found:
            self.nexts[at] = tuple([goal for goal in nexts_of(program, at) if goal != len(program)])
            self.behinds[at] = [ground.behind(program[at], number) for number in range(ground.many)]

    def best_joins(self):
        """The layouts of the joins in a plan of least price."""
        tables = self.tables_below()
        pieces = [self.root_prices(root, tables) for root in (START,) + self.joins]
        best, least = None, FAR
        for row in rows_of(self.ground.many, len(self.joins)):
            price = sum([prices[self.chosen(row, self.joins, own)] for own, prices in pieces])
            if price < least:
                best, least = row, price
        return best

    def chosen(self, row, joins, own):
        """The part of a row of the joins' layouts that some of these joins have."""
        return tuple([row[joins.index(join)] for join in own])

    def stem(self, root):
        """The instructions, one behind the other, up to the first that parts or goes on to a join or to nothing."""
        at = root
        stem = []
        while len(self.nexts[at]) == 1 and self.nexts[at][0] not in self.joins:
            at = self.nexts[at][0]
            stem.append(at)
        return stem

    def tables_below(self):
        """For each join, and each other instruction that is on no stem, its table."""
        on_stem = {one: True for root in (START,) + self.joins for one in self.stem(root)}
        tables = {}
        for join in self.joins:
            tables[join] = ((join,), {(number,): self.ground.ways[number] for number in range(self.ground.many)})
        # Backward in the order in which they were found, each stands behind all that it goes on to.
        for at in self.found[::-1]:
            if at not in self.joins and at not in on_stem:
                tables[at] = self.table_of(at, [tables[goal] for goal in self.nexts[at]])
                for goal in self.nexts[at]:
                    # No other instruction goes on to one that is no join, and tables may be large.
                    if goal not in self.joins:
                        del tables[goal]
        return tables

    def table_of(self, at, parts):
        """The table of an instruction from those of what it goes on to: the way to it is counted in."""
        if len(parts) == 1 and not is_access(self.program[at]):
            # The way to it costs nothing that the way on from it would not cost.
            return parts[0]
        joins = self.joins_below(parts)
        prices = {}
        for row in rows_of(self.ground.many, len(joins)):
            sums = self.summed(parts, joins, row)
            prices[row] = spread([sums[number] for number in self.behinds[at]], self.ground.backward)
        return (joins, prices)

    def joins_below(self, parts):
        return tuple(sorted({join for joins, _ in parts for join in joins}))

    def summed(self, parts, joins, row):
        """What all parts cost together from each layout on, for a row of the joins' layouts."""
        sums = [0] * self.ground.many
        for own, prices in parts:
            costs = prices[self.chosen(row, joins, own)]
            sums = [one + other for one, other in zip(sums, costs)]
        return sums

    def root_prices(self, root, tables):
        """What the tree below a root costs at least: a tuple of joins, and a dict by the rows of their layouts."""
        own = () if root == START else (root,)
        stem = self.stem(root)
        last = ([root] + stem)[-1]
        parts = [tables[goal] for goal in self.nexts[last]]
        joins = self.joins_below(parts + [(own, {})])
        starts = {row: self.led_along(self.root_layout(root, row), stem) for row in rows_of(self.ground.many, len(own))}
        prices = {}
        for row in rows_of(self.ground.many, len(joins)):
            costs = starts[self.chosen(row, joins, own)]
            sums = self.summed(parts, joins, row)
            prices[row] = min([one + other for one, other in zip(costs, sums)])
        return (joins, prices)

    def root_layout(self, root, row):
        """The layout behind the start, or behind a join with the layout of the row ahead of it."""
        return self.ground.start if root == START else self.behinds[root][row[0]]

    def led_along(self, number, stem):
        """What it costs to have each layout behind a stem, from one layout ahead of it."""
        costs = self.ground.only(number)
        for at in stem:
            ahead = spread(costs, self.ground.onward)
            costs = [FAR] * self.ground.many
            for goal, cost in zip(self.behinds[at], ahead):
                costs[goal] = min(costs[goal], cost)
        return costs

    def numbers_for(self, row):
        """For each reached instruction its layout in a plan of least price with these layouts of the joins."""
        numbers = dict(zip(self.joins, row))
        near = {join: self.ground.ways[numbers[join]] for join in self.joins}
        costs = {}
        for at in self.found[::-1]:
            if at not in numbers:
                costs[at] = self.costs_ahead(at, [near[goal] for goal in self.nexts[at]])
                near[at] = spread(costs[at], self.ground.backward)
        came_from = {goal: one for one in (START,) + self.found for goal in self.nexts[one]}
        for at in self.found:
            if at not in numbers:
                before = came_from[at]
                number = self.ground.start if before == START else self.behinds[before][numbers[before]]
                totals = [cost + ways[number] for cost, ways in zip(costs[at], self.ground.ways)]
                numbers[at] = totals.index(min(totals))
        return numbers

    def costs_ahead(self, at, parts):
        """What each layout ahead of an instruction costs, if those behind it cost the sums of the parts."""
        sums = [sum([costs[number] for costs in parts]) for number in range(self.ground.many)]
        return [sums[number] for number in self.behinds[at]]


def plan_of_least_price(habit, layout, program):
    """A plan of least price, for values that are checked already."""
    ground = Ground(habit, layout)
    search = Search(ground, program)
    check_choices(ground.many, len(search.joins))
    numbers = search.numbers_for(search.best_joins())
    return tuple([ground.layouts[numbers[at]] if at in numbers else None for at in range(len(program))])
