"""What the tests of block programs need: random ones, wrong ones, and ones at each of their bounds."""

from tests import helpers

RESERVED = ("names", "to", "end", "let", "say", "ask", "if", "else", "while", "repeat", "do", "stop")
WORDS = ("a", "b", "c", "abcdefgh", "zz", "names" + "x", "toe", "lets", "less")


def random_sum(source, names, levels):
    if levels == 0 or source.random() < 0.4:
        return source.choice(names) if source.random() < 0.6 else source.choice((0, 0, 1, -1, 3, -2, 1000, -1000))
    sign = source.choice(("plus", "minus"))
    return (sign, random_sum(source, names, levels - 1), random_sum(source, names, levels - 1))


def random_test(source, names):
    return (random_sum(source, names, 2), source.random() < 0.5)


class Maker:
    """Makes random block programs with no more than so many parts."""

    def __init__(self, source, parts):
        self.source = source
        self.parts = parts

    def block(self, names, before, deep, most):
        return tuple(self.part(names, before, deep) for _ in range(self.source.randint(0, most)) if self.parts > 0)

    def part(self, names, before, deep):
        self.parts -= 1
        source = self.source
        kinds = ["let", "let", "say", "say", "ask"]
        kinds += ["do"] * (2 if before else 0) + ["if", "while", "repeat"] * (deep < 6)
        word = source.choice(kinds + ["stop"] * (source.random() < 0.15))
        if word == "let":
            return (word, source.choice(names), random_sum(source, names, 4))
        if word == "say":
            return (word, random_sum(source, names, 4))
        if word in ("ask", "do"):
            return (word, source.choice(names if word == "ask" else before))
        if word == "if":
            first = self.block(names, before, deep + 1, 3)
            return (word, random_test(source, names), first, self.block(names, before, deep + 1, 3))
        if word == "while":
            return (word, random_test(source, names), self.block(names, before, deep + 1, 3))
        if word == "repeat":
            return (word, source.randint(0, 3), self.block(names, before, deep + 1, 3))
        return (word,)


def random_blocks(source, parts=20):
    """A block program with at most so many parts."""
    maker = Maker(source, parts)
    names = tuple(source.sample(WORDS, source.randint(1, 5)))
    titles = source.sample(WORDS, source.randint(0, 3))
    procedures = []
    for at, title in enumerate(titles):
        procedures.append((title, maker.block(names, titles[:at], 1, 4)))
    return (names, tuple(procedures), maker.block(names, titles, 1, 6))


def flat(count, term="a"):
    """A sum of so many terms with as few sums within one another as can be."""
    if count == 1:
        return term
    return ("plus", flat(count - count // 2, term), flat(count // 2, term))


def chain(count, term="a"):
    """A sum of so many sums within one another."""
    return term if count == 0 else ("minus", chain(count - 1, term), term)


def backward_chain(count, term="a"):
    return term if count == 0 else ("plus", term, backward_chain(count - 1, term))


def nested(count, word="repeat"):
    """A block so many deep, whose innermost block is void."""
    if count == 1:
        return ()
    if word == "if":
        return ((word, ("a", True), (), nested(count - 1, word)),)
    return ((word, 1 if word == "repeat" else ("a", False), nested(count - 1, word)),)


def with_block(*parts):
    return (("a",), (), parts)


def with_procedures(*procedures):
    return (("a",), procedures, ())


def good_edges():
    """Block programs that are just within their bounds."""
    five = ("a", "b", "c", "d", "e")
    rows = [with_block(), (five, (), ()), (("abcdefgh", "z"), (), (("say", "abcdefgh"),))]
    rows += [with_procedures(*[(name, ()) for name in five[:4]]), with_procedures(("a", (("let", "a", 1),)))]
    rows += [(("a",), (("a", (("say", "a"),)), ("b", (("do", "a"),))), (("do", "a"), ("do", "b"), ("do", "a")))]
    rows += [with_block(("say", value)) for value in (1000, -1000, 0, flat(24), flat(24, 7), chain(6), backward_chain(6))]
    rows += [with_block(("say", ("minus", chain(5), backward_chain(5))))]
    rows += [with_block(("let", "a", flat(24)), ("while", (flat(24), True), ()), ("if", (chain(6), False), (), ()))]
    rows += [with_block(*nested(6, word)) for word in ("repeat", "while", "if")]
    rows += [with_procedures(("p", nested(6))), with_block(*[("ask", "a")] * 60)]
    rows += [(("a",), (("p", (("stop",),) * 30),), (("repeat", 0, (("stop",),) * 29),))]
    rows += [with_block(("repeat", many, (("say", 1),))) for many in range(7)]
    return rows


def deep_and_wide(levels, count):
    """A block whose things are few, but whose parts are count to the power of levels."""
    block = (("say", 1),) * count
    for _ in range(levels):
        block = (("repeat", 1, block),) * count
    return block


def bad_sums():
    wide = [flat(25), flat(25, 0), flat(64), chain(7), backward_chain(7), ("plus", chain(6), 1), ("minus", 1, chain(6))]
    kinds = [1001, -1001, True, None, "b", "A", "", (), ("plus", "a"), ("plus", "a", "a", "a"), ["plus", "a", "a"]]
    kinds += [("times", "a", "a"), ("plus", "a", "b"), ("plus", True, 1), ("plus", 1, None), (1, "a", "a"), {}, []]
    kinds += [("plus", ["a"], "a"), (["plus"], 1, 1), (None, 1, 1), 10 ** 30, ("a",), "plus", b"a"]
    return wide + kinds


def bad_parts():
    """Values that are no part of a block of a program with the name a and the procedure p."""
    rows = [("say", value) for value in bad_sums()] + [("let", "a", value) for value in bad_sums()]
    tests = [(value, True) for value in bad_sums()] + [("a", value) for value in (0, 1, None, "True", (), [])]
    tests += ["a", ("a",), ("a", True, True), ["a", True], None, True, ()]
    rows += [("if", test, (), ()) for test in tests] + [("while", test, ()) for test in tests]
    rows += [("repeat", many, ()) for many in (-1, 7, True, False, None, "1", (), [1], 10 ** 30)]
    rows += [(word, name) for word in ("ask", "do") for name in ("b", "", None, True, 0, ("a",), ["a"], {}, "names")]
    rows += [("do", "a"), ("ask", "p"), ("let", "p", 1), ("let", None, 1), ("let", ["a"], 1), ("let", 0, 1)]
    rows += [("stop", 1), ("stop", None), ("say",), ("say", 1, 1), ("let", "a"), ("let", "a", 1, 1), ("ask",), ("do",)]
    rows += [("ask", "a", "a"), ("do", "p", "p"), ("if", ("a", True), ()), ("if", ("a", True), (), (), ())]
    rows += [("while", ("a", True)), ("while", ("a", True), (), ()), ("repeat", 1), ("repeat", 1, (), ()), ("repeat",)]
    rows += [("repeat", 1, wrong) for wrong in (None, [], "", 0, ("stop",), ((),), (None,), {})]
    rows += [("if", ("a", True), [], ()), ("if", ("a", True), (), []), ("while", ("a", True), None)]
    return rows + ["stop", ["stop"], (), None, True, 0, {}, ("go", 0), ("STOP",), (None,), (["stop"],), (("stop",),), ("",)]


def bad_block_programs():
    """Values that are no block programs, with the error for them."""
    names = [(), ("a",) * 2, ("a", "b", "c", "d", "e", "f"), ["a"], "a", None, ("A",), ("",), ("abcdefghi",), (None,)]
    names += [("a1",), ("a b",), ("a ",), (True,), (("a",),), (["a"],), ("a", 0), (0,), ("a", "b", "a"), (b"a",), {"a": 1}]
    names += [("\u00e9",), ("\u0430",), ("a\n",), ("-",)] + [(word,) for word in RESERVED]
    rows = [(value, (), ()) for value in names]
    titles = ["A", "", None, "abcdefghi", "p q", True, 0, ("p",), ["p"], {}] + list(RESERVED)
    rows += [with_procedures((title, ())) for title in titles]
    rows += [(("a",), value, ()) for value in (None, [], "", 0, (None,), ((),), (("p",),), (("p", (), ()),), (["p", ()],), {})]
    rows += [with_procedures(*[(name, ()) for name in "abcde"]), with_procedures(("p", ()), ("p", ()))]
    rows += [with_procedures(("p", value)) for value in (None, [], "", 0, (("do", "p"),), ((),))]
    rows += [with_procedures(("p", (("do", "q"),)), ("q", ())), with_procedures(("p", (("repeat", 0, (("do", "p"),)),)))]
    rows += [(("a",), (), value) for value in (None, [], "", 0, {}, (None,), ("stop",), [("stop",)])]
    with_p = (("p", ()),)
    rows += [(("a",), with_p, (part,)) for part in bad_parts()]
    rows += [(("a",), with_p, (("stop",), ("repeat", 1, (("stop",), part)))) for part in bad_parts()]
    rows += [with_procedures(("p", ()), ("q", (part,))) for part in bad_parts()]
    rows += [with_block(*nested(7, word)) for word in ("repeat", "while", "if")] + [with_procedures(("p", nested(7)))]
    rows += [with_block(("if", ("a", True), nested(6), ())), with_block(*[("ask", "a")] * 61)]
    rows += [(("a",), (("p", (("stop",),) * 30),), (("repeat", 0, (("stop",),) * 30),))]
    rows += [with_block(("repeat", 0, (("stop",),) * 30), ("if", ("a", True), (("stop",),) * 15, (("stop",),) * 14))]
    rows += [with_block(*deep_and_wide(5, 60)), with_block(*deep_and_wide(4, 3)), with_block(("say", deep_sum(5000)))]
    rows += [(("a",), ()), (("a",), (), (), ()), [("a",), (), ()], (), 0, "abc", (None, None, None)]
    return helpers.awaited("BadBlock", (), list(helpers.ODD) + rows)


def deep_sum(levels):
    value = 1
    for _ in range(levels):
        value = ("plus", value, 1)
    return value
