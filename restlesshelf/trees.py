"""Learning which shelf it is, by trees of tests (points 43 and 44)."""

from restlesshelf.apart import is_test, reads_mark
from restlesshelf.benches import Shelf
from restlesshelf.checks import MOST_TOUCHES, check_habits, check_lot, check_number, is_integer, is_row
from restlesshelf.errors import BadHabit, BadTree

MOST_MANY = 5


def least_tree(habits, lot):
    """A tree for all habits whose worst is as small as can be."""
    check_many_and_lot(habits, lot)
    return TreeSearch(habits, lot).best_tree(all_indexes(habits))


def least_worst(habits, lot):
    """The least worst of all trees for all habits."""
    return worst_of(least_tree(habits, lot))


def worst(habits, lot, tree):
    """How many touches a tree makes at most."""
    check_many_and_lot(habits, lot)
    check_tree(habits, lot, tree)
    return worst_of(tree)


def shows_tree(habits, lot, value):
    """Whether a value is a tree for all habits whose worst is as small as can be."""
    least = least_worst(habits, lot)
    return is_tree(habits, lot, value) and worst_of(value) == least


def learned(habits, lot, tree, index):
    """The group that a tree leaves on the shelf of one of the habits, and how many touches are made."""
    check_many_and_lot(habits, lot)
    check_tree(habits, lot, tree)
    check_number(index, 0, len(habits) - 1)
    touches = 0
    while tree[0] == "test":
        place, word, read = tree[1]
        touches += touches_of(tree[1])
        tree = tree[2] if reads_mark(habits[index], place, word, read) else tree[3]
    return (tree[1], touches)


def learn(habits, lot, tree, shelf):
    """Does the tests of a tree at a shelf; the group that is left."""
    check_many_and_lot(habits, lot)
    check_tree(habits, lot, tree)
    if not isinstance(shelf, Shelf):
        raise BadHabit(None)
    mark = 0
    while tree[0] == "test":
        # A mark of its own for each test, since those before it still stand somewhere.
        mark += 1
        tree = tree[2] if reads_mark_at(shelf, tree[1], mark) else tree[3]
    return tree[1]


def reads_mark_at(shelf, test, mark):
    """Does a test at a shelf with a mark that no book holds, and tells whether it is read."""
    place, word, read = test
    shelf.write(place, mark)
    for touch in word:
        shelf.touch(touch)
    return shelf.read(read) == mark


def check_many_and_lot(habits, lot):
    check_habits(habits, MOST_MANY)
    check_lot(lot, len(habits[0]))


def check_tree(habits, lot, tree):
    if not is_tree(habits, lot, tree):
        raise BadTree("no tree for all habits")


def all_indexes(habits):
    return tuple(range(len(habits)))


def touches_of(test):
    # One that writes, one that reads, and those between them.
    return len(test[1]) + 2


def worst_of(tree):
    if tree[0] == "left":
        return 0
    return touches_of(tree[1]) + max(worst_of(tree[2]), worst_of(tree[3]))


def is_tree(habits, lot, value):
    """Whether a value is a tree of a lot for all habits."""
    return is_tree_for(habits, lot, value, all_indexes(habits), tests_by_marked(habits, lot))


def is_tree_for(habits, lot, value, group, tests):
    """Whether a value is a tree of a lot for a group; tests has those of all habits."""
    if is_row(value, 2, 2) and value[0] == "left":
        return is_same_group(value[1], group) and not any([tells_some(marked, group) for marked in tests])
    if not is_row(value, 4, 4) or value[0] != "test" or not is_tree_test(value[1], lot, len(habits[0])):
        return False
    place, word, read = value[1]
    marked = [index for index in group if reads_mark(habits[index], place, word, read)]
    if not tells_some(marked, group):
        return False
    with_mark, without = parted(marked, group)
    if not is_tree_for(habits, lot, value[2], with_mark, tests):
        return False
    return is_tree_for(habits, lot, value[3], without, tests)


def is_same_group(value, group):
    return isinstance(value, tuple) and all([is_integer(index) for index in value]) and value == group


def is_tree_test(value, lot, places):
    """Whether a value is a test of a lot, with a word that is no longer than words are."""
    if not is_row(value, 3, 3) or not is_row(value[1], 0, MOST_TOUCHES):
        return False
    return is_test(value[0], value[1], value[2], lot, places)


def parted(marked, group):
    """The indexes of a group that are among the marked ones, and those that are not."""
    with_mark = tuple([index for index in group if index in marked])
    return with_mark, tuple([index for index in group if index not in marked])


def tells_some(marked, group):
    """Whether some of a group, and not all, are among the marked ones."""
    with_mark, without = parted(marked, group)
    return len(with_mark) > 0 and len(without) > 0


def tests_by_marked(habits, lot):
    """For each group on just whose shelves some test reads the mark, such a test with as short a word as can be.

    States are where the marks of a test stand on the shelves of all habits; they are found by ever longer words.
    """
    words = {}
    for place in lot:
        words.setdefault(tuple([habit[place][place] for habit in habits]), (place, ()))
    tests = {}
    level = list(words)
    while level:
        further = []
        for state in level:
            place, word = words[state]
            for touch in lot:
                marked = tuple([index for index, stood in enumerate(state) if stood == touch])
                tests.setdefault(marked, (place, word, touch))
                new = tuple([habit[touch][stood] for habit, stood in zip(habits, state)])
                if new not in words:
                    words[new] = (place, word + (touch,))
                    further.append(new)
        level = further
    return tests


class TreeSearch:
    """The search for the trees of least worst, group by group."""

    def __init__(self, habits, lot):
        self.tests = tests_by_marked(habits, lot)
        self.trees = {}

    def best_tree(self, group):
        """A tree for a group whose worst is as small as can be."""
        if group not in self.trees:
            self.trees[group] = self.found_tree(group)
        return self.trees[group]

    def found_tree(self, group):
        best = None
        for marked in list(self.tests):
            if tells_some(marked, group):
                with_mark, without = parted(marked, group)
                tree = ("test", self.tests[marked], self.best_tree(with_mark), self.best_tree(without))
                if best is None or worst_of(tree) < worst_of(best):
                    best = tree
        return ("left", group) if best is None else best
