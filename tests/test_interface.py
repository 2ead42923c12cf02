"""The interface: each function in its own file, with the arguments that the document lists."""

import importlib
import inspect
import unittest

from restlesshelf.benches import Shelf

INTERFACE = {
    "shelves": (
        "touched(habit, layout, place)", "after(habit, layout, word)", "can_come(habit, layout)",
        "word_between(habit, one, other)", "distance(habit, one, other)", "farthest(habit, layout)", "order(habit)",
        "front_habit(places)", "neighbour_habit(places)", "turning_habit(places)",
    ),
    "programs": (
        "run_still(places, program, inputs, most)", "run_restless(habit, program, inputs, most)",
        "reached(places, program)", "used(places, program)", "flow(places, program)",
    ),
    "carrying": ("carries(habit, layout, program, restless)",),
    "plans": (
        "price(habit, layout, program, plan)", "least_plan(habit, layout, program)",
        "shows_least_plan(habit, layout, program, value)", "written(habit, layout, program, plan)",
    ),
    "rows": (
        "stands(habits, stand)", "meeting(habits, stand, name)", "names_met(habits, stand)",
        "access_row(habits, stand, names)", "shows_access_row(habits, stand, names, value)",
        "carries_all(habits, stand, program, restless)", "can_carry(habits, stand, program)",
        "written_for_all(habits, stand, program)",
    ),
    "apart": (
        "test(habit, other, lot)", "shows_test(habit, other, lot, value)", "alike_paper(habit, other, lot)",
        "shows_alike(habit, other, lot, value)", "habits_left(habits, lot, place, word, read, is_marked)",
    ),
    "looks": (
        "book_at(habit, layout, word, place)", "books_of(habit, layout, word)",
        "hidden_losses(habit, layout, word)", "loss_shown(habit, layout, word, spot)",
    ),
    "texts": ("write_program(places, program)", "read_program(places, text)"),
    "blocks": ("play(program, inputs, most)",),
    "making": ("still_of(program)", "places_of(program)"),
    "phrases": ("write_blocks(program)", "read_blocks(text)"),
    "trees": (
        "least_tree(habits, lot)", "least_worst(habits, lot)", "worst(habits, lot, tree)",
        "shows_tree(habits, lot, value)", "learned(habits, lot, tree, index)", "learn(habits, lot, tree, shelf)",
    ),
    "running": (
        "touches_on(habit, program, inputs, most)", "way_prices(habit, layout, program, plan)",
        "dearest_ring(habit, layout, program, plan)", "dearest_way(habit, layout, program, plan)",
        "calmest_plan(habit, layout, program)",
    ),
    "walks": (
        "walked(habit, layout, names)", "front_walk(order, names)", "still_walk(order, names)", "best_still(many, names)",
        "crossed(one, other)", "front_bound(order, other, names)",
    ),
    "kinds": (
        "kept_end(one, other)", "front_word(one, other)", "front_distance(one, other)", "neighbour_word(one, other)",
        "neighbour_distance(one, other)", "turning_word(one, other)",
    ),
    "groups": (
        "made_by(habit, word)", "word_for(habit, permutation)", "comes_round(habit, word)", "alone(habit, place)",
        "stirring(habit)", "all_agree(habit)", "orbits(habit)", "are_even(habit)", "blocks(habit)",
        "never(habit, permutation)", "shows_never(habit, permutation, value)",
    ),
    "joins": (
        "beside(one, other)", "within(outer, inner)", "called(habit, order)", "backed(habit)", "doubled(habit)",
    ),
    "copies": (
        "copies_met(habits, stand, copies)", "copies_written(habits, stand, copies)",
        "shows_written(habits, stand, copies, value)", "least_copies(habits, stand, program)",
        "written_with(habits, stand, program, sets)",
    ),
    "finding": (
        "may_stand(habit, layouts, name, word)", "least_looks(habit, layouts, name)",
        "tells(habit, layouts, name, value)",
    ),
    "hands": (
        "goes(habit, layout, one, other, weave)", "straight(habit, layout, names)",
        "first_clash(habit, layout, one, other)", "weaves_right(habit, layout, one, other)",
        "ends_of(habit, layout, one, other)", "hinders(habit, layout, names, others)", "free_pairs(habit, layout)",
    ),
    "sharing": (
        "shared(habit, sources, layout)", "leads_all(habit, sources, layout, value)",
        "shared_touches(habit, layout, program, plan)", "written_shared(habit, layout, program, plan)",
        "least_shared(habit, layout, program)",
    ),
}

SHELF = (
    "__init__(self, habit, layout)", "read(self, place)", "fetch(self, name)", "write(self, place, value)",
    "put(self, name, value)", "touch(self, place)",
)


class InterfaceTests(unittest.TestCase):
    def test_functions(self):
        for name, functions in INTERFACE.items():
            module = importlib.import_module(f"restlesshelf.{name}")
            for text in functions:
                function = getattr(module, text.partition("(")[0])
                self.assertEqual(function.__module__, module.__name__, text)
                self.assertEqual(function.__name__ + str(inspect.signature(function)), text)

    def test_the_shelf(self):
        self.assertEqual(Shelf.__module__, "restlesshelf.benches")
        for text in SHELF:
            function = vars(Shelf)[text.partition("(")[0]]
            self.assertEqual(function.__name__ + str(inspect.signature(function)), text)
        for name in ("layout", "path", "held"):
            self.assertIn(name, vars(Shelf))


if __name__ == "__main__":
    unittest.main()
