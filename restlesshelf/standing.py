"""Rows of unlike numbers from 0 on: layouts tell the place of each name, orders the name at each place."""


def inverse(row):
    """For each number the index at which it stands in a row."""
    return tuple([row.index(number) for number in range(len(row))])


def pairs_crossed(one, other):
    """How many pairs of indexes have their numbers in unlike order in two rows of as many."""
    crossed = 0
    for high in range(len(one)):
        for low in range(high):
            if (one[low] < one[high]) != (other[low] < other[high]):
                crossed += 1
    return crossed
