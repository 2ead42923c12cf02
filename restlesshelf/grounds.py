"""The layouts that can come on a shelf, by numbers, and what it costs to lead one to another."""

from restlesshelf.flows import is_access
from restlesshelf.moves import layout_depths, move, places_of_habit

# More than any sum of distances.
FAR = 1000000


class Ground:
    """The layouts that can come from one, numbered in ascending order.

    onward and backward name, for each, those to which and from which one touch leads;
    ways[other][one] is how many touches lead one to the other.
    """

    def __init__(self, habit, layout):
        self.layouts = sorted(layout_depths(habit, layout))
        self.many = len(self.layouts)
        self.numbers = {one: number for number, one in enumerate(self.layouts)}
        self.start = self.numbers[layout]
        self.moved = [
            [self.numbers[move(habit, one, place)] for place in places_of_habit(habit)] for one in self.layouts
        ]
        self.onward = [sorted(set(row)) for row in self.moved]
        self.backward = [[] for _ in self.layouts]
        for number, row in enumerate(self.onward):
            for goal in row:
                self.backward[goal].append(number)
        self.ways = [spread(self.only(number), self.backward) for number in range(self.many)]

    def only(self, number):
        """Costs of nothing for one layout, and of far too much for all others."""
        costs = [FAR] * self.many
        costs[number] = 0
        return costs

    def behind(self, instruction, number):
        """The number of the layout behind an instruction of a still program."""
        if is_access(instruction):
            return self.moved[number][self.layouts[number][instruction[1]]]
        return number


def spread(costs, near):
    """For each layout the least of its own cost and, along near layouts, one more than theirs, spread likewise."""
    best = list(costs)
    waiting = {}
    for number, cost in enumerate(best):
        waiting.setdefault(cost, []).append(number)
    while waiting:
        cost = min(list(waiting))
        row = waiting.pop(cost)
        for number in row:
            if best[number] == cost:
                for other in near[number]:
                    if best[other] > cost + 1:
                        best[other] = cost + 1
                        waiting.setdefault(cost + 1, []).append(other)
    return best
