"""Block programs and how they are played: point 40, and what point 1 says of their arguments."""

import random
import unittest

from restlesshelf.blocks import play
from tests import block_helpers, helpers
from tests.block_helpers import with_block

EXAMPLE = (
    ("a", "b"), (),
    (
        ("ask", "a"),
        ("while", ("a", False), (("let", "b", ("plus", "b", "a")), ("let", "a", ("minus", "a", 1)))),
        ("say", "b"),
    ),
)


class Stopped(Exception):
    pass


def worth_of(value, held):
    if isinstance(value, tuple):
        sign = {"plus": 1, "minus": -1}[value[0]]
        return worth_of(value[1], held) + sign * worth_of(value[2], held)
    return held.get(value, value)


def doings_of(block, held, procedures, left):
    """Does a block, yielding ahead of each doing; what is said is yielded behind it."""
    for part in block:
        word, *rest = part
        if word == "while":
            while True:
                yield None
                if (worth_of(rest[0][0], held) == 0) is not rest[0][1]:
                    break
                yield from doings_of(rest[1], held, procedures, left)
            continue
        yield None
        if word == "stop":
            raise Stopped
        if word == "let":
            held[rest[0]] = worth_of(rest[1], held)
        if word == "ask":
            held[rest[0]] = left.pop(0) if left else 0
        if word == "say":
            yield worth_of(rest[0], held)
        if word == "if":
            yield from doings_of(rest[1 + ((worth_of(rest[0][0], held) == 0) is not rest[0][1])], held, procedures, left)
        if word == "repeat":
            for _ in range(rest[0]):
                yield from doings_of(rest[1], held, procedures, left)
        if word == "do":
            yield from doings_of(procedures[rest[0]], held, procedures, left)


def slow_play(program, inputs, most):
    """What a block program says, how it ends, and how many doings it does of so many."""
    names, procedures, block = program
    said, done = [], 0
    try:
        for told in doings_of(block, {name: 0 for name in names}, dict(procedures), list(inputs)):
            if told is not None:
                said.append(told)
            elif done == most:
                return (tuple(said), "running"), done
            else:
                done += 1
    except Stopped:
        pass
    return (tuple(said), "stopped"), done


class PlayTests(unittest.TestCase):
    def test_examples(self):
        self.assertEqual(play(EXAMPLE, (4,), 100), ((10,), "stopped"))
        self.assertEqual(play(EXAMPLE, (4,), 3), ((), "running"))

    def assert_takes(self, program, doings, said, inputs=()):
        """Asserts that a program needs just so many doings, and what it says then."""
        self.assertEqual(play(program, inputs, doings), (said, "stopped"))
        self.assertEqual(play(program, inputs, 5000), (said, "stopped"))
        if doings > 0:
            self.assertEqual(play(program, inputs, doings - 1)[1], "running")

    def test_each_part(self):
        self.assert_takes(with_block(), 0, ())
        self.assert_takes(with_block(("say", 7)), 1, (7,))
        self.assert_takes(with_block(("stop",), ("say", 7)), 1, ())
        self.assert_takes(with_block(("let", "a", 5), ("let", "a", ("plus", "a", "a")), ("say", "a")), 3, (10,))
        self.assert_takes(with_block(("ask", "a"), ("say", "a"), ("ask", "a"), ("say", "a")), 4, (9, 0), (9,))
        self.assert_takes(with_block(("if", ("a", True), (("say", 1),), (("say", 2),))), 2, (1,))
        self.assert_takes(with_block(("if", ("a", False), (("say", 1),), (("say", 2),))), 2, (2,))
        self.assert_takes(with_block(("if", (1, True), (("say", 1),), ())), 1, ())
        self.assert_takes(with_block(("repeat", 3, (("say", 1),))), 4, (1, 1, 1))
        self.assert_takes(with_block(("repeat", 6, (("say", 1),))), 7, (1,) * 6)
        self.assert_takes(with_block(("repeat", 0, (("say", 1),)), ("say", 2)), 2, (2,))
        self.assert_takes(with_block(("repeat", 6, ())), 1, ())
        self.assert_takes(with_block(("repeat", 6, (("repeat", 6, ()),))), 7, ())
        self.assert_takes((("a",), (("a", (("say", 4),)),), (("do", "a"), ("do", "a"))), 4, (4, 4))
        self.assert_takes((("a",), (("a", ()),), (("do", "a"),)), 1, ())

    def test_whiles(self):
        down = (("let", "a", ("minus", "a", 1)),)
        self.assert_takes(with_block(("ask", "a"), ("while", ("a", False), down), ("say", "a")), 9, (0,), (3,))
        self.assert_takes(with_block(("while", ("a", False), down)), 1, ())
        self.assert_takes(with_block(("while", ("a", True), (("let", "a", 1),)), ("say", "a")), 4, (1,))
        forever = with_block(("say", 1), ("while", ("a", True), ()))
        self.assertEqual(play(forever, (), 5000), ((1,), "running"))
        self.assertEqual(play(with_block(("while", (0, True), (("say", 1),))), (), 5000), ((1,) * 2500, "running"))

    def test_a_stop_ends_all(self):
        body = (("say", 1), ("while", ("a", True), (("if", ("a", True), (("stop",),), ()), ("say", 2))), ("say", 3))
        self.assert_takes((("a",), (("p", body),), (("repeat", 2, (("do", "p"), ("say", 4))),)), 6, (1,))

    def test_procedures_share_names_and_do_those_before_them(self):
        procedures = (("up", (("let", "a", ("plus", "a", 1)),)), ("twice", (("do", "up"), ("do", "up"))))
        procedures += (("a", (("repeat", 2, (("do", "twice"),)), ("say", "a"))),)
        self.assert_takes((("a",), procedures, (("do", "a"), ("do", "up"), ("do", "a"))), 28, (4, 9))

    def test_numbers_grow_without_bound(self):
        grow = with_block(("let", "a", 1000), ("while", ("a", False), (("let", "a", block_helpers.flat(24)), ("say", "a"))))
        self.assertEqual(play(grow, (), 5000)[0][-1], 1000 * 24 ** 1666)

    def test_sums(self):
        value = ("minus", 3, ("minus", ("plus", 1, "a"), ("minus", "a", -5)))
        self.assertEqual(play(with_block(("ask", "a"), ("say", value)), (7,), 9)[0], (7,))
        self.assertEqual(play(with_block(("ask", "a"), ("say", block_helpers.flat(24))), (-2,), 9)[0], (-48,))
        self.assertEqual(play(with_block(("ask", "a"), ("say", block_helpers.chain(6))), (2,), 9)[0], (-10,))

    def test_against_a_slow_play(self):
        source = random.Random(31)
        for _ in range(600):
            program = block_helpers.random_blocks(source, source.choice((5, 12, 30)))
            inputs = tuple(source.randint(-3, 3) for _ in range(source.randint(0, 6)))
            told, done = slow_play(program, inputs, 300)
            self.assertEqual(play(program, inputs, 300), told, program)
            if told[1] == "stopped":
                self.assertEqual(play(program, inputs, done), told, program)
                if done > 0:
                    self.assertEqual(play(program, inputs, done - 1)[1], "running", program)
            few = source.randint(0, 10)
            self.assertEqual(play(program, inputs, few), slow_play(program, inputs, few)[0], program)

    def test_procedures_of_great_cost(self):
        # Far more rounds than can be gone through, but each takes a doing.
        block = (("say", 1),)
        for _ in range(5):
            block = (("repeat", 6, block),)
        procedures = [("a", block)]
        for name, before in (("b", "a"), ("c", "b"), ("d", "c")):
            procedures.append((name, (("repeat", 6, (("repeat", 6, (("do", before),)),)),)))
        self.assertEqual(play((("x",), tuple(procedures), (("do", "d"),)), (), 5000)[1], "running")

    def test_programs_at_their_bounds(self):
        for program in block_helpers.good_edges():
            self.assertEqual(play(program, (), 5000), slow_play(program, (), 5000)[0], program)

    def test_wrong_arguments(self):
        rows = [block_helpers.bad_block_programs(), helpers.bad_inputs(), helpers.bad_numbers(0, 5000)]
        helpers.assert_names_wrong_arguments(self, play, (EXAMPLE, (1,), 5), rows)

    def test_as_many_doings_as_may_be(self):
        forever = with_block(("while", (0, True), (("say", 1),)))
        self.assertEqual(play(forever, (), 0), ((), "running"))
        self.assertEqual(play(forever, tuple(range(50)), 1), ((), "running"))
        self.assertEqual(play(forever, (1000000, -1000000), 2), ((1,), "running"))


if __name__ == "__main__":
    unittest.main()
