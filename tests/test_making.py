"""The still programs that block programs are: point 41, and what point 1 says of its arguments."""

import random
import unittest

from restlesshelf.blocks import play
from restlesshelf.carrying import carries
from restlesshelf.errors import NoWay, TooMany
from restlesshelf.making import places_of, still_of
from restlesshelf.plans import least_plan, written
from restlesshelf.programs import run_restless, run_still
from restlesshelf.rows import carries_all, written_for_all
from tests import block_helpers, helpers
from tests.block_helpers import with_block

EXAMPLE = (("a",), (), (("let", "a", ("minus", 3, ("minus", 1, "a"))), ("if", ("a", True), (("stop",),), ()), ("say", "a")))


def signed(value, sign=1):
    """The integers and names of a sum with their signs."""
    if not isinstance(value, tuple):
        return [(sign, value)]
    return signed(value[1], sign) + signed(value[2], sign if value[0] == "plus" else -sign)


def slow_sum(value, names):
    terms = signed(value)
    number = sum(sign * worth for sign, worth in terms if isinstance(worth, int))
    rows = [("plus" if sign > 0 else "minus", names.index(worth)) for sign, worth in terms if isinstance(worth, str)]
    kinds = [word for word, _ in rows]
    if number == 0 and "plus" in kinds:
        at = kinds.index("plus")
        return [("get", rows[at][1])] + rows[:at] + rows[at + 1:]
    return [("put", number)] + rows


def slow_rows(block, names, bodies, start):
    """The instructions of a block that begins at an index."""
    rows = []
    for part in block:
        rows += slow_part(part, names, bodies, start + len(rows))
    return rows


def slow_part(part, names, bodies, start):
    word, *rest = part
    if word in ("say", "let"):
        return slow_sum(rest[-1], names) + [("say",) if word == "say" else ("set", names.index(rest[0]))]
    if word == "ask":
        return [("ask",), ("set", names.index(rest[0]))]
    if word == "stop":
        return [("stop",)]
    if word == "do":
        return slow_rows(bodies[rest[0]], names, bodies, start)
    if word == "repeat":
        return slow_rows(rest[1] * rest[0], names, bodies, start)
    value, is_for_0 = rest[0]
    head = slow_sum(value, names)
    at = start + len(head)
    if word == "if":
        at_zero, otherwise = (rest[1], rest[2]) if is_for_0 else (rest[2], rest[1])
        first = slow_rows(otherwise, names, bodies, at + 1)
        goal = at + 1 + len(first) + 1
        last = slow_rows(at_zero, names, bodies, goal)
        return head + [("zero", goal)] + first + [("go", goal + len(last))] + last
    skip = 2 if is_for_0 else 1
    body = slow_rows(rest[1], names, bodies, at + skip)
    behind = at + skip + len(body) + 1
    turn = [("zero", at + 2), ("go", behind)] if is_for_0 else [("zero", behind)]
    return head + turn + body + [("go", start)]


def slow_still(program):
    names, procedures, block = program
    return tuple(slow_rows(block, names, dict(procedures), 0)) or (("stop",),)


class StillTests(unittest.TestCase):
    def test_examples(self):
        self.assertEqual(still_of(EXAMPLE), (
            ("put", 2), ("plus", 0), ("set", 0), ("get", 0), ("zero", 6), ("go", 7), ("stop",), ("get", 0), ("say",)))
        self.assertEqual(places_of(EXAMPLE), 2)

    def test_sums(self):
        names = ("a", "b", "c")
        rows = [
            (0, (("put", 0),)), (-1000, (("put", -1000),)), ("b", (("get", 1),)), (("plus", 0, "c"), (("get", 2),)),
            (("plus", 1, -1), (("put", 0),)), (("minus", "a", "a"), (("get", 0), ("minus", 0))),
            (("minus", 0, "a"), (("put", 0), ("minus", 0))), (("plus", "a", 5), (("put", 5), ("plus", 0))),
            (("minus", ("minus", 0, "a"), ("minus", "b", "c")), (("get", 2), ("minus", 0), ("minus", 1))),
            (("minus", ("minus", "a", "a"), "a"), (("get", 0), ("minus", 0), ("minus", 0))),
            (("minus", ("minus", 0, "a"), ("minus", 0, "a")), (("get", 0), ("minus", 0))),
            (("plus", ("minus", 3, "a"), ("minus", "b", 3)), (("get", 1), ("minus", 0))),
            (("minus", 3, ("minus", 1, ("minus", "a", ("plus", 2, "b")))), (("get", 0), ("minus", 1))),
            (("plus", ("plus", "b", "a"), ("plus", "b", "b")), (("get", 1), ("plus", 0), ("plus", 1), ("plus", 1))),
        ]
        for value, told in rows:
            self.assertEqual(still_of((names, (), (("say", value),))), told + (("say",),), value)
        self.assertEqual(len(still_of(with_block(("say", block_helpers.flat(24))))), 25)
        self.assertEqual(len(still_of(with_block(("say", ("plus", 1, block_helpers.flat(23)))))), 25)
        self.assertEqual(still_of(with_block(("say", block_helpers.flat(24, 1000)))), (("put", 24000), ("say",)))

    def test_each_part(self):
        say, one, two = ("say",), ("say", 1), ("say", 2)
        rows = [
            ((), (("stop",),)), ((("repeat", 6, ()),), (("stop",),)), ((("repeat", 0, (one,)),), (("stop",),)),
            ((("stop",),), (("stop",),)), ((("ask", "a"),), (("ask",), ("set", 0))),
            ((("let", "a", "a"),), (("get", 0), ("set", 0))),
            ((("if", ("a", True), (one,), (two,)),),
             (("get", 0), ("zero", 5), ("put", 2), say, ("go", 7), ("put", 1), say)),
            ((("if", ("a", False), (one,), (two,)),),
             (("get", 0), ("zero", 5), ("put", 1), say, ("go", 7), ("put", 2), say)),
            ((("if", ("a", False), (), ()),), (("get", 0), ("zero", 3), ("go", 3))),
            ((("if", ("a", True), (), (one,)),), (("get", 0), ("zero", 5), ("put", 1), say, ("go", 5))),
            ((("while", ("a", True), (one,)),), (("get", 0), ("zero", 3), ("go", 6), ("put", 1), say, ("go", 0))),
            ((("while", ("a", False), (one,)),), (("get", 0), ("zero", 5), ("put", 1), say, ("go", 0))),
            ((("while", ("a", True), ()),), (("get", 0), ("zero", 3), ("go", 4), ("go", 0))),
            ((("while", (("plus", "a", 1), False), ()),), (("put", 1), ("plus", 0), ("zero", 4), ("go", 0))),
            ((("repeat", 2, (one,)), two), (("put", 1), say, ("put", 1), say, ("put", 2), say)),
        ]
        for block, told in rows:
            self.assertEqual(still_of(with_block(*block)), told, block)

    def test_procedures(self):
        procedures = (("a", (("say", "a"),)), ("b", (("repeat", 2, (("do", "a"),)), ("stop",))))
        program = (("a", "b"), procedures, (("do", "b"), ("do", "a")))
        self.assertEqual(still_of(program), (("get", 0), ("say",)) * 2 + (("stop",), ("get", 0), ("say",)))
        self.assertEqual(still_of((("a",), procedures, ())), (("stop",),))

    def test_against_slow_stills(self):
        source = random.Random(81)
        many = 0
        for _ in range(800):
            program = block_helpers.random_blocks(source, source.choice((5, 12, 25, 60, 60)))
            told = slow_still(program)
            if len(told) > 200:
                many += 1
                helpers.assert_raises(self, "TooMany", (200,), still_of, program)
            else:
                self.assertEqual(still_of(program), told, program)
        self.assertGreater(many, 4)

    def test_what_they_say(self):
        source = random.Random(82)
        for program, still, inputs in self.made(source, 300):
            told = play(program, inputs, 5000)
            runs = run_still(places_of(program), still, inputs, 5000)
            if told[1] == "stopped" == runs[1]:
                self.assertEqual(told, runs, program)
            else:
                count = min(len(told[0]), len(runs[0]))
                self.assertEqual(told[0][:count], runs[0][:count], program)
            self.assertNotEqual((told[1], runs[1]), ("running", "stopped"))

    def made(self, source, count):
        """Block programs with their still ones, which may be made, and with inputs."""
        while count > 0:
            program = block_helpers.random_blocks(source, source.choice((4, 8, 16)))
            try:
                still = still_of(program)
            except TooMany:
                continue
            count -= 1
            yield program, still, tuple(source.randint(-2, 2) for _ in range(source.randint(0, 5)))

    def test_written_out_for_any_shelf(self):
        source = random.Random(83)
        done = 0
        for program, still, inputs in self.made(source, 150):
            habit = helpers.random_habit(source, places_of(program))
            layout = helpers.random_layout(source, places_of(program))
            try:
                restless = written(habit, layout, still, least_plan(habit, layout, still))
            except TooMany:
                continue
            done += 1
            self.assertTrue(carries(habit, layout, still, restless))
            told = run_still(places_of(program), still, inputs, 500)
            self.assertTrue(helpers.said_alike(told, run_restless(habit, restless, inputs, 50000)), program)
            if play(program, inputs, 500)[1] == "stopped" == told[1]:
                self.assertEqual(run_restless(habit, restless, inputs, 50000), play(program, inputs, 500))
        self.assertGreater(done, 80)

    def test_written_out_for_several_shelves(self):
        source = random.Random(84)
        done = 0
        for program, still, inputs in self.made(source, 100):
            places = places_of(program)
            habits = tuple(helpers.random_habit(source, min(places, 5)) for _ in range(2))
            stand = tuple(helpers.random_layout(source, places) for _ in range(2))
            try:
                restless = written_for_all(habits, stand, still)
            except (NoWay, TooMany):
                continue
            done += 1
            self.assertTrue(carries_all(habits, stand, still, restless))
            told = play(program, inputs, 300)
            for habit in habits:
                self.assertTrue(told[1] == "running" or run_restless(habit, restless, inputs, 50000) == told, program)
        self.assertGreater(done, 30)

    def test_200_and_201(self):
        asks = with_block(("repeat", 6, (("ask", "a"),) * 16), *[("ask", "a")] * 4)
        self.assertEqual(still_of(asks), (("ask",), ("set", 0)) * 100)
        for more in ((("stop",),), (("ask", "a"),), (("say", 1),), (("repeat", 1, (("stop",),)),)):
            helpers.assert_raises(self, "TooMany", (200,), still_of, (("a",), (), asks[2] + more))
        for more in (("repeat", 6, ()), ("repeat", 0, (("stop",),))):
            self.assertEqual(len(still_of((("a",), (), asks[2] + (more,)))), 200)
        body = (("while", ("a", True), (("say", 1),) * 15), ("if", (1, False), (), (("ask", "a"),)))
        self.assertEqual(len(still_of(with_block(*body))), 4 + 30 + 3 + 2)

    def test_200_and_201_with_each_part(self):
        parts = (
            ("stop",), ("ask", "a"), ("say", 1), ("say", ("minus", 3, "a")), ("let", "a", "a"), ("do", "p"),
            ("let", "a", ("plus", ("minus", 1, "a"), ("plus", "a", -1))), ("if", (("plus", "a", 1), True), (("stop",),), ()),
            ("if", ("a", False), (), (("say", 1), ("stop",))), ("while", (("plus", "a", 1), True), ()),
            ("while", (("plus", "a", 1), False), (("stop",),)), ("repeat", 3, (("stop",), ("ask", "a"))), ("repeat", 5, ()),
        )
        for part in parts:
            program = (("a",), (("p", (("say", 1), ("stop",))),), (part,))
            many = len(slow_rows(program[2], program[0], dict(program[1]), 0))
            halves, one = divmod(200 - many, 2)
            filled = (part,) + (("repeat", 6, (("say", 1),) * (halves // 6)),) + (("say", 1),) * (halves % 6)
            filled += (("stop",),) * one
            self.assertEqual(len(still_of(program[:2] + (filled,))), 200, part)
            self.assertEqual(still_of(program[:2] + (filled,)), slow_still(program[:2] + (filled,)))
            helpers.assert_raises(self, "TooMany", (200,), still_of, program[:2] + (filled + (("stop",),),))

    def test_far_too_many(self):
        block = (("say", 1),)
        void = ()
        for _ in range(5):
            block, void = (("repeat", 6, block),), (("repeat", 6, void),)
        procedures, voids = [("a", block)], [("a", void)]
        for name, before in (("b", "a"), ("c", "b"), ("d", "c")):
            more = ((("repeat", 6, (("repeat", 6, (("repeat", 6, (("do", before),)),)),)),))
            procedures.append((name, more))
            voids.append((name, more))
        helpers.assert_raises(self, "TooMany", (200,), still_of, (("a",), tuple(procedures), (("do", "d"),)))
        # Nothing is made by rounds without number.
        self.assertEqual(still_of((("a",), tuple(voids), (("do", "d"),))), (("stop",),))
        mixed = (("a",), tuple(voids), (("repeat", 6, (("do", "d"), ("say", 1), ("do", "d"))),))
        self.assertEqual(still_of(mixed), (("put", 1), ("say",)) * 6)

    def test_programs_at_their_bounds(self):
        for program in block_helpers.good_edges():
            if len(slow_still(program)) <= 200:
                self.assertEqual(still_of(program), slow_still(program))

    def test_places(self):
        for count in range(1, 6):
            self.assertEqual(places_of((("a", "b", "c", "d", "e")[:count], (), ())), max(2, count))

    def test_wrong_arguments(self):
        rows = [block_helpers.bad_block_programs()]
        helpers.assert_names_wrong_arguments(self, still_of, (EXAMPLE,), rows)
        helpers.assert_names_wrong_arguments(self, places_of, (EXAMPLE,), rows)
        # What is no block program has no number of instructions.
        wrong = with_block(("repeat", 6, (("ask", "a"),) * 20), ("ask", "b"))
        helpers.assert_raises(self, "BadBlock", (), still_of, wrong)


if __name__ == "__main__":
    unittest.main()
