"""Rings of costly ways between instructions.

Ways are a dict from pairs of instructions to what it costs to go on from one to the other.
"""

from math import gcd


def costly_ring(ways):
    """A ring, as a tuple of instructions of which the last is the first, whose ways cost more than 0 in all.

    None without one. Sums grow along ways until no way raises one any more; if they still grow when each sum could be
    that of a way without a ring, there is a ring that costs more than 0 among the ways that raised them last.
    """
    sums = {at: 0 for pair in ways for at in pair}
    raised_from = {}
    raised = None
    for _ in range(len(sums)):
        raised = None
        for (at, goal), cost in ways.items():
            if sums[at] + cost > sums[goal]:
                sums[goal] = sums[at] + cost
                raised_from[goal] = at
                raised = goal
        if raised is None:
            return None
    return None if raised is None else ring_behind(raised_from, raised)


def ring_behind(raised_from, at):
    """The ring to which one comes by going backward from an instruction."""
    has_been = {}
    while at not in has_been:
        has_been[at] = True
        at = raised_from[at]
    ring = [at]
    while len(ring) == 1 or ring[-1] != at:
        ring.append(raised_from[ring[-1]])
    return tuple(ring[::-1])


def mean_of(ways, ring):
    """What a ring costs for each of its steps, as a ratio in lowest terms."""
    steps = len(ring) - 1
    cost = sum([ways[pair] for pair in zip(ring, ring[1:])])
    shared = gcd(cost, steps)
    return (cost // shared, steps // shared)


def any_ring(ways):
    """Any ring, None without one."""
    return costly_ring({pair: 1 for pair in ways})


def dearer_ring(ways, mean):
    """A ring whose mean is greater than a mean, None without one."""
    top, low = mean
    return costly_ring({pair: ways[pair] * low - top for pair in ways})


def has_ring_as_dear(ways, mean):
    """Whether some ring has a mean or a greater one."""
    top, low = mean
    # A ring without a smaller one in it has at most so many steps: less than one cost in all, if each counts 1.
    many = len(ways) + 1
    return costly_ring({pair: many * (ways[pair] * low - top) + 1 for pair in ways}) is not None


def ring_of_greatest_mean(ways):
    """A ring and its mean, than which no ring has a greater one, None without a ring."""
    ring = any_ring(ways)
    dearer = ring
    while dearer is not None:
        ring = dearer
        dearer = dearer_ring(ways, mean_of(ways, ring))
    return None if ring is None else (ring, mean_of(ways, ring))
