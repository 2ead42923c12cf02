"""A start that nobody knows: points 74 and 75, and what point 1 says of their arguments."""

import itertools
import random
import unittest

from restlesshelf.finding import least_looks, may_stand, tells
from restlesshelf.shelves import after, front_habit, touched
from tests import helpers

SWAP = ((1, 0), (0, 1))
STILL = ((0, 1), (0, 1))
TWO = ((0, 1), (1, 0))
STAY = ((0, 1, 2),) * 3


def random_start(source, places, most=24):
    """Some layouts that a shelf may have, ascending."""
    layouts = helpers.all_layouts(places)
    return tuple(sorted(source.sample(layouts, source.randint(1, min(most, len(layouts))))))


def random_name(source, places):
    return source.choice([None] + list(range(places)))


def sought(layout, name):
    return layout if name is None else layout[name]


def looked(habit, layouts, place):
    """For each book that a look may show the layouts behind it."""
    shown = {}
    for layout in layouts:
        shown.setdefault(layout.index(place), []).append(touched(habit, layout, place))
    return shown


def can_tell(habit, layouts, name, looks):
    """Whether so many looks are enough, at whatever places."""
    if len({sought(layout, name) for layout in layouts}) == 1:
        return True
    if looks == 0:
        return False
    for place in range(len(habit)):
        if all(can_tell(habit, left, name, looks - 1) for left in looked(habit, layouts, place).values()):
            return True
    return False


def slow_least(habit, layouts, name):
    """The depth and the tree that the document tells, from the depths of all parts by a search of their own."""
    depth = 0
    while not can_tell(habit, layouts, name, depth):
        depth += 1
    if depth == 0:
        return 0, sought(layouts[0], name)
    for place in range(len(habit)):
        shown = looked(habit, layouts, place)
        if len(shown) > 1 and all(can_tell(habit, left, name, depth - 1) for left in shown.values()):
            return depth, (place, tuple((book, slow_least(habit, shown[book], name)[1]) for book in sorted(shown)))
    return None


def is_leaf(tree, name):
    return isinstance(tree, int) or (name is None and isinstance(tree[1], int))


def followed(habit, layout, name, tree):
    """What a tree tells at a shelf with a layout, how many looks it needs, and the layout behind them."""
    looks = 0
    while not is_leaf(tree, name):
        place, parts = tree
        tree = dict(parts)[layout.index(place)]
        layout = touched(habit, layout, place)
        looks += 1
    return tree, looks, layout


def random_tree(source, habit, layouts, name, looks):
    """A tree of at most so many looks, at any places, that tells what is sought; None if it came to no end."""
    is_known = len({sought(layout, name) for layout in layouts}) == 1
    if is_known and (looks == 0 or source.random() < 0.6):
        return sought(layouts[0], name)
    if looks == 0:
        return None
    place = source.randrange(len(habit))
    shown = looked(habit, layouts, place)
    parts = [(book, random_tree(source, habit, shown[book], name, looks - 1)) for book in sorted(shown)]
    return None if any(tree is None for _, tree in parts) else (place, tuple(parts))


def chain(habit, layout, name, looks):
    """A tree of so many looks where all is known already."""
    if looks == 0:
        return sought(layout, name)
    place = looks % len(habit)
    return (place, ((layout.index(place), chain(habit, touched(habit, layout, place), name, looks - 1)),))


class ExampleTests(unittest.TestCase):
    def test_examples(self):
        self.assertEqual(least_looks(SWAP, TWO, 0), (1, (0, ((0, 1), (1, 0)))))
        self.assertEqual(least_looks(SWAP, TWO, None), (1, (0, ((0, (1, 0)), (1, (0, 1))))))
        self.assertEqual(may_stand(SWAP, TWO, 0, (0, 0, 1)), (0, 1))


class StandingTests(unittest.TestCase):
    def test_where_a_name_may_stand(self):
        source = random.Random(261)
        for _ in range(150):
            places = source.randint(2, 5)
            habit, layouts = helpers.random_habit(source, places), random_start(source, places)
            for name in range(places):
                word = tuple(source.randrange(places) for _ in range(source.choice((0, 1, 3, 20))))
                told = may_stand(habit, layouts, name, word)
                self.assertEqual(told, tuple(sorted({after(habit, layout, word)[name] for layout in layouts})))
                # They are as many behind each word.
                self.assertEqual(len(told), len(may_stand(habit, layouts, name, ())))

    def test_edges(self):
        self.assertEqual(may_stand(SWAP, ((1, 0),), 0, ()), (1,))
        self.assertEqual(may_stand(SWAP, ((1, 0),), 0, (0,) * 400), (1,))
        self.assertEqual(may_stand(SWAP, ((1, 0),), 0, (0,) * 399), (0,))
        self.assertEqual(may_stand(front_habit(4), tuple(helpers.all_layouts(4)), 2, (1, 2, 3)), (0, 1, 2, 3))
        self.assertEqual(may_stand(STAY, ((0, 1, 2), (0, 2, 1)), 0, (1,)), (0,))


class LeastLooksTests(unittest.TestCase):
    def test_against_a_slow_search(self):
        source = random.Random(262)
        depths = {}
        for _ in range(150):
            places = source.choice((2, 3, 3, 4))
            habit = helpers.random_habit(source, places)
            layouts, name = random_start(source, places, 8), random_name(source, places)
            depth, tree = least_looks(habit, layouts, name)
            self.assertEqual((depth, tree), slow_least(habit, layouts, name))
            depths[depth] = depths.get(depth, 0) + 1
        self.assertGreater(min(depths.get(depth, 0) for depth in (0, 1, 2)), 10)

    def test_what_the_tree_tells(self):
        source = random.Random(263)
        for _ in range(150):
            places = source.randint(2, 5)
            habit = helpers.random_habit(source, places)
            layouts, name = random_start(source, places), random_name(source, places)
            depth, tree = least_looks(habit, layouts, name)
            most = 0
            for layout in layouts:
                told, looks, behind = followed(habit, layout, name, tree)
                self.assertEqual(told, sought(behind, name))
                most = max(most, looks)
            self.assertEqual(most, depth)
            self.assertIs(tells(habit, layouts, name, tree), True)

    def test_24_layouts(self):
        everything = tuple(helpers.all_layouts(4))
        for habit in (front_habit(4), ((0, 1, 2, 3),) * 4):
            self.assertEqual([least_looks(habit, everything, name)[0] for name in (0, 3, None)], [3, 3, 3])
            self.assertIs(tells(habit, everything, None, least_looks(habit, everything, None)[1]), True)
        some = tuple(helpers.all_layouts(5)[:24])
        self.assertEqual([least_looks(front_habit(5), some, name)[0] for name in (0, 1, None)], [0, 3, 3])

    def test_known_already(self):
        self.assertEqual(least_looks(SWAP, ((1, 0),), 0), (0, 1))
        self.assertEqual(least_looks(SWAP, ((1, 0),), None), (0, (1, 0)))
        # The other two names may stand at either of two places, this one stands at one alone.
        layouts = ((0, 1, 2), (0, 2, 1))
        self.assertEqual([least_looks(STAY, layouts, name) for name in (0, 1)], [(0, 0), (1, (1, ((1, 1), (2, 2))))])
        self.assertEqual(least_looks(STAY, layouts, None), (1, (1, ((1, (0, 1, 2)), (2, (0, 2, 1))))))

    def test_the_first_of_the_best_places(self):
        # Place 0 shows two books, place 1 three: one more look is needed behind the first.
        layouts = ((0, 1, 2), (0, 2, 1), (1, 2, 0))
        depth, tree = least_looks(STAY, layouts, 1)
        self.assertEqual((depth, tree[0]), (1, 1))
        self.assertEqual(tree, (1, ((0, 2), (1, 1), (2, 2))))
        # Places 1 and 2 are as good, and place 0 shows one book alone.
        self.assertEqual(least_looks(STAY, ((0, 1, 2), (0, 2, 1)), 2)[1][0], 1)


class TellingTests(unittest.TestCase):
    def test_any_tree(self):
        source = random.Random(264)
        done = 0
        while done < 250:
            places = source.choice((2, 3, 3, 4))
            habit = helpers.random_habit(source, places)
            layouts, name = random_start(source, places, 6), random_name(source, places)
            tree = random_tree(source, habit, layouts, name, source.randint(0, 7))
            if tree is None:
                continue
            done += 1
            self.assertIs(tells(habit, layouts, name, tree), True)
            for changed in self.changes(source, habit, tree, name):
                if changed != tree:
                    self.assertIs(tells(habit, layouts, name, changed), False, (habit, layouts, name, changed))

    def changes(self, source, habit, tree, name):
        """Trees that are wrong at one place."""
        if is_leaf(tree, name):
            if name is None:
                return [tree[1:] + tree[:1], list(tree), tree + (0,), None, tree[0], (), "a"]
            return [(tree + 1) % len(habit), -1, len(habit), None, (tree,), "a"] + ([bool(tree)] if tree < 2 else [])
        place, parts = tree
        rows = [(place, parts[:-1]), (place, parts + parts[-1:]), (place, list(parts)), (place, dict(parts)), (place, ())]
        rows += [(len(habit), parts), (-1, parts), (None, parts), (place,), (place, parts, 0), [place, parts], (str(place), parts)]
        if len(parts) > 1:
            rows += [(place, parts[::-1]), (place, parts[1:])]
        at = source.randrange(len(parts))
        book, part = parts[at]
        free = [other for other in range(-1, len(habit) + 1) if other not in dict(parts)]
        wrong = [(other, part) for other in free] + [(None, part), (book,), (book, part, 0), [book, part], book, None]
        if book < 2:
            wrong.append((bool(book), part))
        if place < 2:
            rows.append((bool(place), parts))
        wrong += [(book, further) for further in self.changes(source, habit, part, name) if further != part]
        return rows + [(place, parts[:at] + (one,) + parts[at + 1:]) for one in wrong]

    def test_up_to_20_looks(self):
        for habit, layout in ((SWAP, (1, 0)), (front_habit(3), (2, 0, 1))):
            for name in (0, 1, None):
                for looks in (0, 1, 19, 20):
                    self.assertIs(tells(habit, (layout,), name, chain(habit, layout, name, looks)), True)
                for looks in (21, 22, 400):
                    self.assertIs(tells(habit, (layout,), name, chain(habit, layout, name, looks)), False)

    def test_looks_that_show_one_book_alone(self):
        layouts = ((0, 1, 2), (0, 2, 1))
        self.assertIs(tells(STAY, layouts, 1, (0, ((0, (1, ((1, 1), (2, 2)))),))), True)
        self.assertIs(tells(STAY, layouts, 1, (0, ((0, (0, ((0, 1),))),))), False)
        # Known already, and looked for further.
        self.assertIs(tells(STAY, layouts, 0, (0, ((0, 0),))), True)
        self.assertIs(tells(STAY, layouts, 0, (1, ((1, 0), (2, 0)))), True)
        self.assertIs(tells(STAY, layouts, 0, (1, ((1, 0), (2, 1)))), False)
        self.assertIs(tells(STAY, layouts, 0, (1, ((1, 0),))), False)
        self.assertIs(tells(STAY, layouts, 0, 0), True)
        self.assertIs(tells(STAY, layouts, 1, 1), False)

    def test_any_value(self):
        values = list(helpers.ODD) + [(), -1, 2, (0,), (0, 0), (0, ()), (0, (0, 0)), (0, ((0, 0),)), ((0, 1), (1, 0))]
        values += [(0, ((0, 1), (1, None))), (0, ((0, True), (1, 0))), (0, ((False, 1), (1, 0))), (0, ([0, 1], (1, 0)))]
        deep = 0
        for _ in range(3000):
            deep = (0, ((0, deep), (1, deep)))
        for value in values + [deep]:
            self.assertIs(tells(SWAP, TWO, 0, value), False, value)
            self.assertIs(tells(SWAP, TWO, None, value), False, value)
        self.assertIs(tells(SWAP, TWO, 0, (0, ((0, 1), (1, 0)))), True)
        self.assertIs(tells(SWAP, TWO, None, (0, ((0, (1, 0)), (1, (0, 1))))), True)
        # A place is no layout, and a layout no place.
        self.assertIs(tells(SWAP, ((0, 1),), None, 0), False)
        self.assertIs(tells(SWAP, ((0, 1),), 0, (0, 1)), False)
        self.assertIs(tells(SWAP, ((0, 1),), None, (0, 1)), True)
        self.assertIs(tells(SWAP, ((0, 1),), 0, False), False)


class WrongArgumentTests(unittest.TestCase):
    def test_wrong_arguments(self):
        rows = [helpers.bad_habits(), helpers.bad_starts()]
        words = rows + [helpers.bad_names(), helpers.bad_words()]
        helpers.assert_names_wrong_arguments(self, may_stand, (SWAP, TWO, 1, (0, 1)), words)
        names = [row for row in helpers.bad_names() if row[0] is not None]
        helpers.assert_names_wrong_arguments(self, least_looks, (SWAP, TWO, 1), rows + [names])
        helpers.assert_names_wrong_arguments(self, tells, (SWAP, TWO, 1, 0), rows + [names, []])
        helpers.assert_raises(self, "BadNames", (), may_stand, SWAP, TWO, None, ())

    def test_25_layouts(self):
        layouts = tuple(helpers.all_layouts(5))
        for function, rest in ((may_stand, (0, ())), (least_looks, (0,)), (tells, (0, 0))):
            for wrong in (layouts[:25], layouts, layouts[:24][::-1], layouts[:5] + layouts[4:9]):
                helpers.assert_raises(self, "BadLayouts", (), function, front_habit(5), wrong, *rest)
            for many in (1, 2, 24):
                function(front_habit(5), layouts[:many], *rest)

    def test_all_numbers_of_layouts(self):
        for layouts in itertools.combinations(helpers.all_layouts(3), 3):
            self.assertEqual(least_looks(STAY, layouts, None)[0], slow_least(STAY, layouts, None)[0])


if __name__ == "__main__":
    unittest.main()
