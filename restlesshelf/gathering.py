"""How several layouts of a ground are led to one, with as few touches as can be if their ways share them.

A group of the layouts is told by the sum of 1, 2, 4 and so on for its members. For each group and each goal the fewest
touches are found: those of two smaller groups that are led to the goal apart, or those to a layout from which a touch
leads on to it.
"""

from restlesshelf.grounds import spread
from restlesshelf.nets import sums_of


class Gathering:
    """The fewest touches from some sources, told by their numbers, to each layout of a ground."""

    def __init__(self, ground, sources):
        self.ground = ground
        self.costs = {}
        for at, source in enumerate(sources):
            self.costs[1 << at] = [ground.ways[number][source] for number in range(ground.many)]
        self.whole = (1 << len(sources)) - 1
        for group in range(1, self.whole + 1):
            if group not in self.costs:
                self.costs[group] = self.costs_of(group)

    def costs_of(self, group):
        rows = [sums_of(self.costs[part], self.costs[group - part]) for part in parts_of(group)]
        return spread([min(column) for column in zip(*rows)], self.ground.onward)

    def fewest(self, goal):
        """How few touches lead all sources to a layout."""
        return self.costs[self.whole][goal]

    def touches_to(self, goal):
        """The fewest pairs of a layout and a place, told by numbers, by which touches lead all sources to a layout.

        No layout is in two of them: it could be left out of one, and there would be fewer.
        """
        touches = []
        waiting = [(self.whole, goal)]
        while waiting:
            group, number = waiting.pop()
            if self.costs[group][number] > 0:
                before = self.one_before(group, number)
                if before is None:
                    part = self.part_apart(group, number)
                    waiting.extend([(part, number), (group - part, number)])
                else:
                    touches.append((before, self.ground.moved[before].index(number)))
                    waiting.append((group, before))
        return touches

    def one_before(self, group, number):
        """A layout from which a touch leads a group on to another one in the cheapest way, None without one."""
        for before in self.ground.backward[number]:
            if self.costs[group][before] == self.costs[group][number] - 1:
                return before
        return None

    def part_apart(self, group, number):
        """A part of a group that is led to a layout apart from the rest in the cheapest way."""
        for part in parts_of(group):
            if self.costs[part][number] + self.costs[group - part][number] == self.costs[group][number]:
                return part
        return None


def parts_of(group):
    """The parts of a group, neither void nor whole, but for those whose rest is a part already."""
    return [part for part in range(1, group) if (part & group) == part and part < group - part]
