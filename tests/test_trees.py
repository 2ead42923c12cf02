"""Learning which shelf it is: points 43 and 44, and what point 1 says of their arguments."""

import itertools
import random
import unittest

from restlesshelf.apart import alike_paper
from restlesshelf.benches import Shelf
from restlesshelf.errors import NoWay, TooMany
from restlesshelf.making import places_of, still_of
from restlesshelf.programs import run_restless, run_still
from restlesshelf.rows import written_for_all
from restlesshelf.shelves import after, front_habit, neighbour_habit, turning_habit
from restlesshelf.trees import learn, learned, least_tree, least_worst, shows_tree, worst
from tests import block_helpers, helpers

STILL = ((0, 1), (0, 1))
SWAP = ((1, 0), (0, 1))
BOTH = ((1, 0), (1, 0))
LOT = (0, 1)
LEFT = ("left", (0,))
# A mark written at place 0 is read there on STILL alone; behind a touch of place 1 SWAP and BOTH differ, too.
FIRST = ("test", (0, (), 0), ("left", (0,)), ("test", (1, (), 1), ("left", (1,)), ("left", (2,))))


def reads(habit, test):
    """Whether a test reads the mark, by a run of a program that does it."""
    place, word, read = test
    rows = (("put", 1), ("set", place)) + tuple(("touch", touch) for touch in word) + (("get", read), ("say",))
    return run_restless(habit, rows, (), 1000)[0] == (1,)


def marked_by(habit, place, word):
    """Where the mark of a test stands ahead of the read."""
    for touch in (place,) + word:
        place = habit[touch][place]
    return place


def short_tests(habits, lot, most):
    """The tests of a lot with words of at most so many places: for each the touches and the marked habits."""
    rows = {}
    for count in range(most + 1):
        for place, word in itertools.product(lot, itertools.product(lot, repeat=count)):
            stands = [marked_by(habit, place, word) for habit in habits]
            for read in lot:
                rows.setdefault(frozenset(at for at, stood in enumerate(stands) if stood == read), count + 2)
    return rows


def slow_least(rows, group):
    """The least worst of all trees for a group, with tests of these rows."""
    costs = []
    for marked, touches in rows.items():
        if group & marked and group - marked:
            costs.append(touches + max(slow_least(rows, group & marked), slow_least(rows, group - marked)))
    return min(costs, default=0)


def hasty_least(rows, group):
    """The least worst of the trees for a group that have the shortest tests throughout."""
    telling = {marked: touches for marked, touches in rows.items() if group & marked and group - marked}
    least = min(telling.values(), default=0)
    costs = [least + max(hasty_least(rows, group & marked), hasty_least(rows, group - marked))
             for marked, touches in telling.items() if touches == least]
    return min(costs, default=0)


def slow_worst(habits, lot, tree, group):
    """The worst of a tree for a group, None for what is no tree for it."""
    if tree[0] == "left":
        papers = [alike_paper(habits[one], habits[other], lot) for one, other in itertools.combinations(group, 2)]
        return 0 if tree == ("left", tuple(group)) and None not in papers else None
    word, test, one, other = tree
    marked = [at for at in group if reads(habits[at], test)]
    if word != "test" or not {test[0], test[2], *test[1]} <= set(lot) or len(marked) in (0, len(group)):
        return None
    costs = [slow_worst(habits, lot, one, marked), slow_worst(habits, lot, other, [at for at in group if at not in marked])]
    return None if None in costs else len(test[1]) + 2 + max(costs)


def random_lot(source, places):
    return tuple(sorted(source.sample(range(places), source.randint(1, places))))


def random_many(source, places):
    """One to five habits, some of them alike or nearly so."""
    habits = [helpers.random_habit(source, places)]
    for _ in range(source.randint(0, 4)):
        near = list(source.choice(habits))
        near[source.randrange(places)] = helpers.random_layout(source, places)
        habits.append(source.choice((tuple(near), tuple(near), helpers.random_habit(source, places), habits[0])))
    return tuple(habits)


def random_tree(source, habits, lot, group):
    """Any tree for a group, often deeper than need be."""
    tests = []
    for _ in range(60):
        word = tuple(source.choice(lot) for _ in range(source.randint(0, 6)))
        test = (source.choice(lot), word, source.choice(lot))
        marked = tuple(at for at in group if reads(habits[at], test))
        if 0 < len(marked) < len(group):
            tests.append((test, marked))
    if not tests:
        return ("left", tuple(group))
    test, marked = source.choice(tests)
    rest = tuple(at for at in group if at not in marked)
    return ("test", test, random_tree(source, habits, lot, marked), random_tree(source, habits, lot, rest))


def random_case(source):
    places = source.choice((2, 2, 3, 3, 4, 5))
    habits = random_many(source, places)
    return habits, random_lot(source, places)


class ExampleTests(unittest.TestCase):
    def test_examples(self):
        habits = (front_habit(3), neighbour_habit(3))
        tree = least_tree(habits, (0, 1, 2))
        self.assertEqual(least_worst(habits, (0, 1, 2)), 2)
        self.assertEqual(learned(habits, (0, 1, 2), tree, 1), ((1,), 2))
        self.assertEqual(learn(habits, (0, 1, 2), tree, Shelf(habits[0], (2, 0, 1))), (0,))


class LeastTreeTests(unittest.TestCase):
    def test_against_all_short_tests(self):
        source = random.Random(101)
        done = 0
        for _ in range(600):
            places = source.choice((2, 2, 3, 3, 4))
            habits, lot = random_many(source, places), random_lot(source, places)
            most = {1: 40, 2: 7, 3: 5, 4: 3}[len(lot)]
            slow = slow_least(short_tests(habits, lot, most), frozenset(range(len(habits))))
            least = least_worst(habits, lot)
            # Trees with longer words cost at least the longest ones' touches and one more.
            self.assertTrue(least == slow or most + 3 <= least <= slow or (slow == 0 and least >= most + 3))
            done += least == slow and slow > 4
            tree = least_tree(habits, lot)
            self.assertEqual(slow_worst(habits, lot, tree, range(len(habits))), least)
            self.assertEqual(worst(habits, lot, tree), least)
            self.assertIs(shows_tree(habits, lot, tree), True)
        self.assertGreater(done, 20)

    def test_one_habit(self):
        for habit in (SWAP, front_habit(5)):
            self.assertEqual(least_tree((habit,), (1,)), LEFT)
            self.assertEqual(least_worst((habit,), (1,)), 0)
            self.assertEqual(worst((habit,), (1,), LEFT), 0)
            self.assertIs(shows_tree((habit,), (1,), LEFT), True)

    def test_habits_that_are_alike(self):
        self.assertEqual(least_tree((SWAP,) * 5, LOT), ("left", (0, 1, 2, 3, 4)))
        self.assertEqual(least_tree((STILL, SWAP), (1,)), ("left", (0, 1)))
        tree = least_tree((STILL, SWAP, STILL), LOT)
        self.assertEqual(least_worst((STILL, SWAP, STILL), LOT), 2)
        self.assertEqual({tree[2], tree[3]}, {("left", (0, 2)), ("left", (1,))})

    def test_five_habits(self):
        habits = (front_habit(5), neighbour_habit(5), turning_habit(5), ((0, 1, 2, 3, 4),) * 5, front_habit(5)[::-1])
        self.assertEqual(slow_worst(habits, (0, 1, 2, 3, 4), least_tree(habits, (0, 1, 2, 3, 4)), range(5)),
                         least_worst(habits, (0, 1, 2, 3, 4)))
        rows = short_tests(habits, (0, 1, 2, 3, 4), 3)
        self.assertEqual(least_worst(habits, (0, 1, 2, 3, 4)), slow_least(rows, frozenset(range(5))))

    def test_the_shortest_test_is_not_always_the_best_one(self):
        source = random.Random(102)
        found = 0
        for _ in range(400):
            habits, lot = random_many(source, 3), random_lot(source, 3)
            rows = short_tests(habits, lot, 4)
            hasty = hasty_least(rows, frozenset(range(len(habits))))
            found += 0 < least_worst(habits, lot) < hasty
        self.assertGreater(found, 0)

    def test_far_tests(self):
        one = ((1, 2, 3, 4, 0),) + turning_habit(5)[1:]
        other = ((1, 2, 3, 0, 4),) + turning_habit(5)[1:]
        self.assertEqual(least_worst((one, other), (0,)), 5)
        self.assertEqual(least_tree((one, other), (0,)),
                         ("test", (0, (0, 0, 0), 0), ("left", (1,)), ("left", (0,))))

    def test_wrong_arguments(self):
        rows = [bad_many(), helpers.bad_lots()]
        for function in (least_tree, least_worst):
            helpers.assert_names_wrong_arguments(self, function, ((STILL, SWAP), LOT), rows)
        helpers.assert_names_wrong_arguments(self, shows_tree, ((STILL, SWAP), LOT, None), rows + [[]])

    def test_lots_of_other_shelves(self):
        for lot in ((0, 3), (3,), (2, 1), ()):
            helpers.assert_raises(self, "BadPlace", (), least_tree, (front_habit(3),), lot)
        self.assertEqual(least_tree((front_habit(3),), (0, 2)), LEFT)


def bad_many():
    """Wrong many habits of two places."""
    none = helpers.awaited("BadHabits", (None,), [None, True, "a", [], {}, 0, (), [STILL, SWAP], (STILL,) * 6, STILL * 3])
    first = [((wrong, SWAP), "BadHabits", (0,)) for wrong, _, _ in helpers.bad_habits()] + [(STILL, "BadHabits", (0,))]
    later = [((STILL, wrong), "BadHabits", (1,)) for wrong, _, _ in helpers.bad_habits() + [(front_habit(3), "", ())]]
    last = [((STILL,) * 4 + (wrong, wrong)[:1], "BadHabits", (4,)) for wrong in (None, front_habit(3), [STILL], True)]
    later += [((STILL, None, front_habit(3), None), "BadHabits", (1,))]
    return none + first + later + last


def bad_trees():
    """Values that are no tree of both places for the habits STILL, SWAP and BOTH."""
    left = [("left", (0,)), ("left", (1,)), ("left", (2,))]
    good = (0, (), 0)
    values = [value for value in helpers.ODD] + [0, (), "left", "test", ("left",), ("left", (0, 1, 2)), ("left", ()), ("left", None)]
    values += [left[0], ("test", good, left[0], ("left", (1, 2))), ("test", good, ("left", (1, 2)), left[0])]
    values += [("test", good, left[0]), FIRST + (None,), list(FIRST), ("test", good, FIRST[3], left[0]), FIRST[3]]
    values += [("tests",) + FIRST[1:], ("left",) + FIRST[1:], (None,) + FIRST[1:], ([],) + FIRST[1:]]
    tests = [None, (), (0, ()), (0, (), 0, 0), [0, (), 0], (0, [], 0), (False, (), 0), (0, (), False), (2, (), 0), (0, (), 2)]
    tests += [(0, (2,), 0), (0, (True,), 0), (0, None, 0), (0, (0,) * 401, 0), (-1, (), 0), (1, (), 1), "test", {}, ((), (), ())]
    values += [("test", test) + FIRST[2:] for test in tests]
    groups = [(True,), (False,), 0, [0], None, (0, 0), (1,), "0", ((0,),), ("0",), {}, (0, 1), ()]
    values += [("test", good, ("left", group), FIRST[3]) for group in groups]
    values += [("test", good, left[0], ("test", (1, (), 1), left[2], left[1])), ("test", good, left[0], None)]
    values += [("test", good, left[0], ("test", (0, (), 0), left[1], left[2])), ("test", good, left[0], FIRST)]
    values += [("test", good, left[0], ("test", (1, (), 1), left[1], ("left", (2, 2)))), ("test", good, None, FIRST[3])]
    return helpers.awaited("BadTree", (), values)


class TreeTests(unittest.TestCase):
    MANY = (STILL, SWAP, BOTH)

    def test_any_tree(self):
        source = random.Random(103)
        told = {True: 0, False: 0}
        for _ in range(300):
            habits, lot = random_case(source)
            tree = random_tree(source, habits, lot, range(len(habits)))
            cost = slow_worst(habits, lot, tree, range(len(habits)))
            if cost is None:
                self.assertIs(shows_tree(habits, lot, tree), False)
                helpers.assert_raises(self, "BadTree", (), worst, habits, lot, tree)
                continue
            self.assertEqual(worst(habits, lot, tree), cost)
            is_least = cost == least_worst(habits, lot)
            self.assertIs(shows_tree(habits, lot, tree), is_least)
            told[is_least] += 1
        self.assertGreater(min(told.values()), 60)

    def test_deeper_than_need_be(self):
        self.assertEqual(worst(self.MANY, LOT, FIRST), 4)
        self.assertIs(shows_tree(self.MANY, LOT, FIRST), True)
        longer = ("test", (0, (1, 1), 0)) + FIRST[2:]
        self.assertEqual(slow_worst(self.MANY, LOT, longer, range(3)), 6)
        self.assertEqual(worst(self.MANY, LOT, longer), 6)
        self.assertIs(shows_tree(self.MANY, LOT, longer), False)
        pair = (STILL, SWAP)
        for count in (0, 1, 2, 399, 400):
            tree = ("test", (0, (1,) * count, 0), ("left", (0,)), ("left", (1,)))
            self.assertEqual(worst(pair, LOT, tree), count + 2)
            self.assertIs(shows_tree(pair, LOT, tree), count == 0)
            self.assertEqual(learned(pair, LOT, tree, 0), ((0,), count + 2))
            shelf = Shelf(SWAP, (1, 0))
            self.assertEqual(learn(pair, LOT, tree, shelf), (1,))
            self.assertEqual(shelf.path, (0,) + (1,) * count + (0,))

    def test_a_left_where_a_test_tells(self):
        self.assertIs(shows_tree((STILL, SWAP), LOT, ("left", (0, 1))), False)
        self.assertIs(shows_tree((STILL, SWAP), (1,), ("left", (0, 1))), True)
        helpers.assert_raises(self, "BadTree", (), worst, (STILL, SWAP), LOT, ("left", (0, 1)))
        helpers.assert_raises(self, "BadTree", (), worst, (STILL, SWAP), (1,),
                              ("test", (0, (), 0), ("left", (0,)), ("left", (1,))))

    def test_a_test_where_none_tells(self):
        tree = ("test", (0, (), 0), ("left", (0, 1)), ("left", ()))
        self.assertIs(shows_tree((STILL, STILL), LOT, tree), False)
        helpers.assert_raises(self, "BadTree", (), worst, (STILL, STILL), LOT, tree)

    def test_any_value_may_be_shown(self):
        for value, _, _ in bad_trees():
            self.assertIs(shows_tree(self.MANY, LOT, value), False, value)
        self.assertIs(shows_tree(self.MANY, LOT, least_tree(self.MANY, LOT)), True)
        whole = ("left", (0, 1))
        for habits in ((SWAP,), (SWAP, SWAP)):
            good = ("left", (0, 1)[:len(habits)])
            self.assertIs(shows_tree(habits, LOT, good), True)
            for value in [value for value, _, _ in bad_trees()] + [good + (None,), good * 2, list(good), FIRST, whole * 2]:
                if value != good:
                    self.assertIs(shows_tree(habits, LOT, value), False, value)
                    helpers.assert_raises(self, "BadTree", (), worst, habits, LOT, value)

    def test_wrong_arguments(self):
        rows = [bad_many(), helpers.bad_lots(), bad_trees()]
        good = (self.MANY, LOT, FIRST)
        helpers.assert_names_wrong_arguments(self, worst, good, rows)
        helpers.assert_names_wrong_arguments(self, learned, good + (2,), rows + [helpers.bad_numbers(0, 2)])
        shelves = helpers.awaited("BadHabit", (None,), helpers.ODD + (SWAP, (), 0, Shelf, (SWAP, (0, 1)), "Shelf"))
        helpers.assert_names_wrong_arguments(self, learn, good + (Shelf(SWAP, (0, 1)),), rows + [shelves])


class LearningTests(unittest.TestCase):
    def test_what_is_learned(self):
        source = random.Random(104)
        for _ in range(250):
            habits, lot = random_case(source)
            tree = least_tree(habits, lot)
            if source.random() < 0.5:
                other = random_tree(source, habits, lot, range(len(habits)))
                tree = other if slow_worst(habits, lot, other, range(len(habits))) is not None else tree
            most = 0
            for index, habit in enumerate(habits):
                group, touches = learned(habits, lot, tree, index)
                most = max(most, touches)
                self.assertIn(index, group)
                self.assert_are_alike(habits, lot, group)
                shelf = Shelf(habit, helpers.random_layout(source, len(habit)))
                self.assertEqual(learn(habits, lot, tree, shelf), group)
                self.assertEqual(len(shelf.path), touches)
                self.assertTrue(set(shelf.path) <= set(lot))
            self.assertEqual(most, worst(habits, lot, tree))

    def assert_are_alike(self, habits, lot, group):
        for one, other in itertools.combinations(group, 2):
            self.assertIsNotNone(alike_paper(habits[one], habits[other], lot))

    def test_marks_of_tests(self):
        # The first test writes 1, the second one 2.
        shelf = Shelf(BOTH, (0, 1))
        self.assertEqual(learn((STILL, SWAP, BOTH), LOT, FIRST, shelf), (2,))
        self.assertEqual(shelf.path, (0, 0, 1, 1))
        self.assertEqual(shelf.held, (1, 2))
        shelf = Shelf(STILL, (1, 0))
        self.assertEqual(learn((STILL, SWAP, BOTH), LOT, FIRST, shelf), (0,))
        self.assertEqual((shelf.path, shelf.held), ((0, 0), (0, 1)))
        shelf = Shelf(BOTH, (0, 1))
        self.assertEqual((learn((BOTH,), LOT, LEFT, shelf), shelf.path, shelf.held), ((0,), (), (0, 0)))

    def test_a_mark_is_told_from_those_before(self):
        source = random.Random(105)
        confused = 0
        for _ in range(150):
            habits, lot = random_case(source)
            tree = random_tree(source, habits, lot, range(len(habits)))
            if slow_worst(habits, lot, tree, range(len(habits))) is None:
                continue
            for index, habit in enumerate(habits):
                layout = helpers.random_layout(source, len(habit))
                told = learned(habits, lot, tree, index)[0]
                self.assertEqual(learn(habits, lot, tree, Shelf(habit, layout)), told)
                confused += learn_with_one_mark(tree, Shelf(habit, layout)) != told
        self.assertGreater(confused, 5)

    def test_programs_behind_learning(self):
        source = random.Random(106)
        done = 0
        while done < 40:
            program = block_helpers.random_blocks(source, 8)
            places = places_of(program)
            habits = random_many(source, places)
            lot = random_lot(source, places)
            tree = least_tree(habits, lot)
            for habit in habits:
                shelf = Shelf(habit, helpers.random_layout(source, places))
                first = shelf.layout
                left = learn(habits, lot, tree, shelf)
                for name in range(places):
                    shelf.put(name, 0)
                group = tuple(habits[at] for at in left)
                stand = tuple(after(other, first, shelf.path) for other in group)
                try:
                    still = still_of(program)
                    restless = written_for_all(group[:3], stand[:3], still)
                except (NoWay, TooMany):
                    continue
                if habit in group[:3]:
                    done += 1
                    inputs = tuple(source.randint(-2, 2) for _ in range(3))
                    told = run_still(places, still, inputs, 200)
                    self.assertTrue(helpers.said_alike(told, run_at(shelf, restless, inputs, 20000)))


def learn_with_one_mark(tree, shelf):
    """What would be learned if all tests wrote 1."""
    while tree[0] == "test":
        place, word, read = tree[1]
        shelf.write(place, 1)
        for touch in word:
            shelf.touch(touch)
        tree = tree[2] if shelf.read(read) == 1 else tree[3]
    return tree[1]


def run_at(shelf, program, inputs, most):
    """Runs a restless program at a shelf."""
    hand, at, said, left = 0, 0, [], list(inputs)
    for _ in range(most):
        if at == len(program) or program[at][0] == "stop":
            return tuple(said), "stopped"
        word, *rest = program[at]
        at += 1
        if word == "go" or (word == "zero" and hand == 0):
            at = rest[0]
        elif word == "set":
            shelf.write(rest[0], hand)
        elif word == "touch":
            shelf.touch(rest[0])
        elif word in ("get", "plus", "minus"):
            held = shelf.read(rest[0])
            hand = {"get": held, "plus": hand + held, "minus": hand - held}[word]
        elif word == "put":
            hand = rest[0]
        elif word == "ask":
            hand = left.pop(0) if left else 0
        elif word == "say":
            said.append(hand)
    return tuple(said), "running"


if __name__ == "__main__":
    unittest.main()
