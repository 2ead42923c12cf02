"""A shelf at work: point 16, and what point 1 says of its arguments."""

import random
import unittest

from restlesshelf.benches import Shelf
from restlesshelf.errors import BadPlace
from restlesshelf.programs import run_restless
from restlesshelf.shelves import after, front_habit, turning_habit
from tests import helpers

SWAP = ((1, 0), (0, 1))


def told(shelf):
    return shelf.layout, shelf.path, shelf.held


class ShelfTests(unittest.TestCase):
    def test_examples(self):
        shelf = Shelf(SWAP, (0, 1))
        told = [shelf.put(0, 5), shelf.layout, shelf.read(1), shelf.fetch(0), shelf.path, shelf.held]
        self.assertEqual(told, [None, (1, 0), 5, 5, (0, 1, 1), (5, 0)])
        with self.assertRaises(BadPlace):
            shelf.read(2)

    def test_a_new_shelf(self):
        self.assertEqual(told(Shelf(front_habit(5), (4, 2, 0, 1, 3))), ((4, 2, 0, 1, 3), (), (0,) * 5))
        self.assertEqual(told(Shelf(SWAP, (1, 0))), ((1, 0), (), (0, 0)))

    def test_against_slow_shelves(self):
        source = random.Random(61)
        for _ in range(120):
            places = source.randint(2, 5)
            habit, layout = helpers.random_habit(source, places), helpers.random_layout(source, places)
            shelf, held, path = Shelf(habit, layout), [0] * places, ()
            for _ in range(source.randint(0, 25)):
                stood = after(habit, layout, path)
                name, value = source.randrange(places), source.choice((0, -5, 10 ** 40, 7))
                place = stood[name]
                deed = source.choice(("read", "write", "touch", "fetch", "put"))
                if deed in ("read", "fetch"):
                    answer = shelf.read(place) if deed == "read" else shelf.fetch(name)
                    self.assertEqual(answer, held[name])
                elif deed == "touch":
                    self.assertIsNone(shelf.touch(place))
                else:
                    self.assertIsNone(shelf.write(place, value) if deed == "write" else shelf.put(name, value))
                    held[name] = value
                path += (place,)
                self.assertEqual(told(shelf), (after(habit, layout, path), path, tuple(held)))

    def test_against_restless_programs(self):
        source = random.Random(62)
        for _ in range(60):
            places = source.randint(2, 5)
            habit = helpers.random_habit(source, places)
            shelf, rows, said = Shelf(habit, tuple(range(places))), [], []
            for value in range(1, 20):
                place = source.randrange(places)
                deed = source.choice(("read", "write", "touch"))
                if deed == "read":
                    said.append(shelf.read(place))
                    rows += [("get", place), ("say",)]
                elif deed == "write":
                    shelf.write(place, value)
                    rows += [("put", value), ("set", place)]
                else:
                    shelf.touch(place)
                    rows.append(("touch", place))
            self.assertEqual(run_restless(habit, tuple(rows), (), 1000), (tuple(said), "stopped"))

    def test_what_is_read_stood_there_before_the_touch(self):
        shelf = Shelf(SWAP, (0, 1))
        shelf.write(0, 8)
        self.assertEqual([shelf.read(0), shelf.read(0), shelf.read(1)], [0, 8, 8])

    def test_long_paths(self):
        shelf = Shelf(turning_habit(5), (0, 1, 2, 3, 4))
        for at in range(5000):
            shelf.touch(at % 5)
        self.assertEqual(shelf.path, (0, 1, 2, 3, 4) * 1000)
        self.assertEqual(shelf.layout, (0, 1, 2, 3, 4))

    def test_shelves_do_not_share(self):
        one, other = Shelf(SWAP, (0, 1)), Shelf(SWAP, (0, 1))
        one.put(1, 3)
        self.assertEqual(told(other), ((0, 1), (), (0, 0)))
        self.assertEqual(told(one), ((0, 1), (1,), (0, 3)))

    def test_what_is_told_is_no_way_in(self):
        shelf = Shelf(SWAP, (0, 1))
        for name in ("layout", "path", "held"):
            self.assertIsInstance(getattr(shelf, name), tuple)
            with self.assertRaises(AttributeError):
                setattr(shelf, name, (1, 0))

    def test_methods_and_properties_are_the_class_s_own(self):
        for name in ("read", "write", "touch", "fetch", "put", "layout", "path", "held"):
            self.assertIn(name, vars(Shelf))
        for name in ("layout", "path", "held"):
            self.assertIsInstance(vars(Shelf)[name], property)


class WrongArgumentTests(unittest.TestCase):
    def test_of_a_new_shelf(self):
        rows = [helpers.bad_habits(), helpers.bad_layouts()]
        helpers.assert_names_wrong_arguments(self, Shelf, (SWAP, (0, 1)), rows)
        helpers.assert_raises(self, "BadLayout", (), Shelf, front_habit(3), (0, 1))

    def test_of_each_method(self):
        no_integers = helpers.awaited("BadNumber", (), helpers.ODD + ((), (0,), "1", b"1"))
        shelf = Shelf(SWAP, (0, 1))
        for method, rows in (
            (shelf.read, [helpers.bad_places()]), (shelf.touch, [helpers.bad_places()]),
            (shelf.fetch, [helpers.bad_names()]), (shelf.write, [helpers.bad_places(), no_integers]),
            (shelf.put, [helpers.bad_names(), no_integers]),
        ):
            helpers.assert_names_wrong_arguments(self, method, (1, -10 ** 30)[:len(rows)], rows)

    def test_nothing_happens(self):
        shelf = Shelf(front_habit(3), (2, 0, 1))
        shelf.write(2, 9)
        before = told(shelf)
        for call in (
            lambda: shelf.read(3), lambda: shelf.touch(-1), lambda: shelf.touch(True), lambda: shelf.fetch(3),
            lambda: shelf.write(0, None), lambda: shelf.write(3, 1), lambda: shelf.put(0, True), lambda: shelf.put("0", 1),
        ):
            with self.assertRaises(ValueError):
                call()
            self.assertEqual(told(shelf), before)


if __name__ == "__main__":
    unittest.main()
