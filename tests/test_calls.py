"""Equal arguments have equal answers, however often and in whatever order functions are called (point 1)."""

import random
import unittest

from restlesshelf import apart, blocks, carrying, copies, finding, groups, hands, joins, kinds, looks, making, phrases
from restlesshelf import plans, programs, rows, running, sharing, shelves, texts, trees, walks
from restlesshelf.benches import Shelf
from restlesshelf.errors import ShelfError

FRONT = ((0, 1, 2), (1, 0, 2), (1, 2, 0))
SWAP = ((1, 0), (0, 1))
STILL = ((0, 1), (0, 1))
APART = (STILL, STILL)
LOOP = (("get", 0), ("set", 1), ("zero", 0), ("say",))
BLOCKS = (("a",), (("p", (("say", "a"),)),), (("ask", "a"), ("repeat", 2, (("do", "p"),))))
MANY = (STILL, SWAP, STILL)
TREE = ("test", (0, (), 0), ("left", (0, 2)), ("left", (1,)))

CALLS = [
    (shelves.touched, FRONT, (0, 1, 2), 2), (shelves.can_come, FRONT, (2, 0, 1)), (shelves.order, FRONT),
    (programs.run_still, 2, LOOP, (1, 2), 50), (programs.flow, 2, LOOP), (programs.run_restless, SWAP, LOOP, (), 9),
    (carrying.carries, SWAP, (0, 1), LOOP, LOOP), (plans.least_plan, FRONT, (0, 1, 2), LOOP),
    (plans.written, SWAP, (0, 1), LOOP, ((0, 1),) * 4), (rows.stands, (SWAP, STILL), ((0, 1), (1, 0))),
    (rows.written_for_all, (SWAP, STILL), ((0, 1), (0, 1)), LOOP), (apart.test, STILL, SWAP, (0, 1)),
    (apart.alike_paper, STILL, SWAP, (1,)), (looks.book_at, FRONT, (2, 0, 1), (1, 2, 0), 1),
    (looks.books_of, FRONT, (2, 0, 1), (1, 2, 0)), (looks.loss_shown, FRONT, (2, 0, 1), (1, 2, 0), 0),
    (looks.hidden_losses, FRONT, (2, 0, 1), (1, 2, 0)), (texts.write_program, 2, LOOP),
    (texts.read_program, 2, "get 0\nset 1\nzero 0\nsay"), (texts.read_program, 2, "get 0\nset 2"),
    (blocks.play, BLOCKS, (3,), 50), (blocks.play, BLOCKS, (3,), 2), (blocks.play, (), (3,), 2),
    (making.still_of, BLOCKS), (making.places_of, BLOCKS), (phrases.write_blocks, BLOCKS),
    (phrases.read_blocks, "names a\nsay a - 2"), (phrases.read_blocks, "names a\nsay b"),
    (trees.least_tree, MANY, (0, 1)), (trees.least_worst, MANY, (0, 1)), (trees.worst, MANY, (0, 1), TREE),
    (trees.learned, MANY, (0, 1), TREE, 2), (trees.shows_tree, MANY, (0, 1), TREE),
    (lambda: trees.learn(MANY, (0, 1), TREE, Shelf(SWAP, (1, 0))),), (trees.learn, MANY, (0, 1), TREE, None),
    (running.touches_on, SWAP, LOOP, (1,), 20), (running.calmest_plan, SWAP, (0, 1), LOOP),
    (running.way_prices, SWAP, (0, 1), LOOP, ((0, 1),) * 4), (running.dearest_ring, SWAP, (0, 1), LOOP, ((0, 1),) * 4),
    (running.dearest_way, SWAP, (0, 1), LOOP[:2], ((0, 1),) * 2), (shelves.touched, FRONT, (0, 1), 2),
    (looks.book_at, FRONT, (2, 0, 1), (3,), 1), (plans.least_plan, (), (), ()),
    (walks.walked, FRONT, (2, 0, 1), (1, 1, 0)), (walks.front_walk, (2, 0, 1), (1, 1, 0)), (walks.best_still, 3, (1, 1, 2)),
    (walks.front_bound, (2, 0, 1), (1, 0, 2), (1, 1, 0)), (walks.crossed, (0, 1), (0, 1, 2)),
    (kinds.front_word, (2, 0, 1), (1, 0, 2)), (kinds.neighbour_word, (2, 0, 1), (1, 0, 2)),
    (kinds.turning_word, (2, 0, 1), (0, 1, 2)), (kinds.kept_end, (2, 0, 1), (0, 2)),
    (groups.word_for, FRONT, (2, 0, 1)), (groups.comes_round, FRONT, (2, 1)), (groups.blocks, (STILL, STILL)),
    (groups.blocks, ((0, 1, 2),) * 3), (groups.never, SWAP, (1, 0)), (groups.shows_never, SWAP, (1, 0), ("closed",)),
    (groups.orbits, STILL), (groups.alone, FRONT, 1), (groups.stirring, FRONT), (joins.beside, FRONT, SWAP),
    (joins.within, SWAP, STILL), (joins.within, FRONT, STILL), (joins.called, FRONT, (2, 0, 1)), (joins.backed, FRONT),
    (copies.copies_met, APART, ((0, 1), (1, 0)), (0, 1)), (copies.copies_met, APART, ((0, 1), (1, 0)), (0,)),
    (copies.copies_written, APART, ((0, 1), (1, 0)), (0, 1)), (copies.copies_written, APART, ((0, 1), (1, 0)), (1, 0)),
    (copies.shows_written, APART, ((0, 1), (1, 0)), (0, 1), (("set", 0), ("set", 1))),
    (copies.least_copies, APART, ((0, 1), (1, 0)), LOOP[:1]), (copies.least_copies, APART, ((0, 1), (1, 0)), LOOP),
    (copies.written_with, APART, ((0, 1), (1, 0)), LOOP[:1], ((0, (0, 1)),)),
    (copies.written_with, APART, ((0, 1), (1, 0)), LOOP[:1], ((0, (0,)),)),
    (finding.may_stand, SWAP, ((0, 1), (1, 0)), 1, (0, 1)), (finding.least_looks, SWAP, ((0, 1), (1, 0)), None),
    (finding.tells, SWAP, ((0, 1), (1, 0)), 0, (0, ((0, 1), (1, 0)))), (finding.tells, SWAP, ((1, 0), (0, 1)), 0, 0),
    (hands.goes, SWAP, (0, 1), ((0, 0), (1, None)), ((1, 1),), (0, 1, 0)), (hands.straight, FRONT, (0, 1, 2), (2, 1, 2)),
    (hands.first_clash, SWAP, (0, 1), ((0, 0), (1, None)), ((1, 1),)), (hands.free_pairs, FRONT, (0, 1, 2)),
    (hands.weaves_right, SWAP, (0, 1), ((0, 0), (1, None)), ((1, 1),)), (hands.hinders, FRONT, (0, 1, 2), (2,), (0, 1)),
    (hands.ends_of, SWAP, (0, 1), ((0, 0), (1, None)), ((1, 1),)), (hands.goes, SWAP, (0, 1), (), (), (0,)),
    (sharing.shared, FRONT, ((0, 1, 2), (2, 1, 0)), (1, 2, 0)), (sharing.shared, STILL, ((0, 1),), (1, 0)),
    (sharing.leads_all, SWAP, ((1, 0),), (0, 1), (((1, 0), 0),)), (sharing.least_shared, SWAP, (0, 1), LOOP),
    (sharing.shared_touches, SWAP, (0, 1), LOOP, ((0, 1),) * 4), (sharing.written_shared, SWAP, (0, 1), LOOP, ((0, 1),) * 4),
    (sharing.least_shared, FRONT, (0, 1, 2), (("zero", 0),) * 5),
]


def answer(call):
    """What a call returns, or the error that it raises, as a text."""
    try:
        return repr(call[0](*call[1:]))
    except ShelfError as error:
        return f"{error.__class__.__name__} {vars(error)}"


class CallTests(unittest.TestCase):
    def test_any_order(self):
        first = [answer(call) for call in CALLS]
        source = random.Random(71)
        for _ in range(8):
            order = [source.randrange(len(CALLS)) for _ in range(3 * len(CALLS))]
            for at in order:
                self.assertEqual(answer(CALLS[at]), first[at], CALLS[at])

    def test_arguments_are_kept(self):
        before = repr([call[1:] for call in CALLS])
        for call in CALLS:
            answer(call)
        self.assertEqual(repr([call[1:] for call in CALLS]), before)


if __name__ == "__main__":
    unittest.main()
