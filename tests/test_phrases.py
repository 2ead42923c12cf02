"""The texts of block programs: point 42, and what point 1 says of its arguments."""

import random
import unittest

from restlesshelf.errors import BadLine
from restlesshelf.phrases import read_blocks, write_blocks
from tests import block_helpers, helpers
from tests.block_helpers import with_block
from tests.slow_phrases import slow_read

TEXT = "names a b\nto less\nlet a = a - ( b + 1 )\nend\nask a\nwhile a != 0\ndo less\nend\nsay a"
PROGRAM = (
    ("a", "b"), (("less", (("let", "a", ("minus", "a", ("plus", "b", 1))),)),),
    (("ask", "a"), ("while", ("a", False), (("do", "less"),)), ("say", "a")),
)
LONG = (
    "names a b\nto p\nif a + 1 = 0\nsay - 1\nend\nstop\nend\nto q\nrepeat 3\ndo p\nend\nend\n\nask b\n"
    "if ( a - b ) + ( a - -3 ) != 0\nlet a = b\nelse\nwhile b - 1 = 0\ndo q\nstop\nend\nend\nsay a + b - 1"
).replace("say - 1", "say -1")


def answer(text):
    """What a text tells, or the line and word that the error names."""
    try:
        return read_blocks(text)
    except BadLine as error:
        return (error.line, error.word)


class TextCase(unittest.TestCase):
    def assert_bad_line(self, text, line, word):
        helpers.assert_raises(self, "BadLine", (line, word), read_blocks, text)
        self.assertEqual(slow_read(text), (line, word), text)

    def assert_refuses(self, line, word, ahead="names a b\nto p\nend"):
        """Asserts that a word of a line cannot stand behind some lines."""
        self.assert_bad_line(ahead + "\n" + line, ahead.count("\n") + 2, word)

    def assert_says(self, text, value):
        """Asserts what sum a text tells."""
        self.assertEqual(read_blocks("names a b\nsay " + text), (("a", "b"), (), (("say", value),)))
        self.assertEqual(read_blocks("names a b\nlet b = " + text), (("a", "b"), (), (("let", "b", value),)))
        told = (("a", "b"), (), (("while", (value, False), ()),))
        self.assertEqual(read_blocks(f"names a b\nwhile {text} != 0\nend"), told)


class WritingTests(TextCase):
    def test_examples(self):
        self.assertEqual(write_blocks(read_blocks(TEXT)), TEXT)
        self.assertEqual(read_blocks("names a\nsay a - 2"), (("a",), (), (("say", ("minus", "a", 2)),)))
        with self.assertRaises(BadLine) as caught:
            read_blocks("names a\nsay b")
        self.assertEqual((caught.exception.line, caught.exception.word), (2, 2))

    def test_each_part(self):
        self.assertEqual(write_blocks(PROGRAM), TEXT)
        self.assertEqual(read_blocks(TEXT), PROGRAM)
        block = (
            ("let", "a", -3), ("say", 0), ("ask", "a"), ("stop",), ("repeat", 0, ()), ("repeat", 6, (("stop",),)),
            ("if", (1, True), (), ()), ("if", ("a", False), (("stop",),), ()), ("if", ("a", True), (), (("ask", "a"),)),
        )
        lines = (
            "names a", "let a = -3", "say 0", "ask a", "stop", "repeat 0", "end", "repeat 6", "stop", "end", "if 1 = 0", "end",
            "if a != 0", "stop", "end", "if a = 0", "else", "ask a", "end",
        )
        self.assertEqual(write_blocks(with_block(*block)), "\n".join(lines))
        self.assertEqual(read_blocks("\n".join(lines)), with_block(*block))
        self.assertEqual(write_blocks((("a", "zz"), (("a", ()), ("b", (("do", "a"),))), ())),
                         "names a zz\nto a\nend\nto b\ndo a\nend")

    def test_sums(self):
        rows = [
            (("minus", ("plus", "a", 1), "b"), "a + 1 - b"), (("plus", "a", ("minus", 1, "b")), "a + ( 1 - b )"),
            (("minus", ("plus", 1, 2), ("minus", 3, -4)), "1 + 2 - ( 3 - -4 )"), (-1000, "-1000"),
            (("plus", ("plus", "a", ("plus", "b", "a")), "b"), "a + ( b + a ) + b"),
            (("plus", "a", ("plus", ("plus", 1, 2), ("plus", 3, 4))), "a + ( 1 + 2 + ( 3 + 4 ) )"),
            (block_helpers.backward_chain(3), "a + ( a + ( a + a ) )"), (block_helpers.chain(3), "a - a - a - a"),
        ]
        for value, text in rows:
            self.assertEqual(write_blocks((("a", "b"), (), (("say", value),))), "names a b\nsay " + text)
            self.assert_says(text, value)

    def test_there_and_back(self):
        source = random.Random(91)
        for _ in range(500):
            program = block_helpers.random_blocks(source, source.choice((3, 10, 30, 60)))
            text = write_blocks(program)
            self.assertEqual(read_blocks(text), program)
            self.assertEqual(slow_read(text), program)
            self.assertEqual(read_blocks(loosened(source, text)), program)

    def test_programs_at_their_bounds(self):
        for program in block_helpers.good_edges():
            self.assertEqual(read_blocks(write_blocks(program)), program)

    def test_wrong_arguments(self):
        helpers.assert_names_wrong_arguments(self, write_blocks, (PROGRAM,), [block_helpers.bad_block_programs()])
        texts = helpers.awaited("BadString", (), [None, True, False, 0, (), [], {}, ("say",), b"names a", PROGRAM, -1])
        helpers.assert_names_wrong_arguments(self, read_blocks, (TEXT,), [texts])


def loosened(source, text):
    """A text with more spaces and void lines."""
    lines = []
    for line in text.split("\n"):
        lines += [" " * source.randint(0, 2)] * source.choice((0, 0, 1, 2))
        words = [word + " " * source.randint(1, 3) for word in line.split(" ")]
        lines.append((" " * source.randint(0, 3) + "".join(words)).rstrip(" ") + " " * source.randint(0, 2))
    return "\n".join(lines + [""] * source.randint(0, 2))


class ReadingTests(TextCase):
    def test_brackets_that_need_not_be(self):
        one = ("plus", "a", 1)
        for text in ("( a + 1 )", "( ( a + 1 ) )", "( ( ( ( ( ( a + 1 ) ) ) ) ) )", "a + 1", "  (  a  +  1  )  "):
            self.assert_says(text, one)
        self.assert_says("( a + 1 ) - b", ("minus", one, "b"))
        self.assert_says("( a + 1 - b )", ("minus", one, "b"))
        self.assert_says("b - ( ( a + 1 ) )", ("minus", "b", one))
        self.assert_says("( ( ( ( ( ( a + 1 ) ) ) ) ) ) + ( ( ( ( ( ( a + 1 ) ) ) ) ) )", ("plus", one, one))

    def test_brackets_6_and_7_open(self):
        self.assert_refuses("say ( ( ( ( ( ( ( a + 1 ) ) ) ) ) ) )", 8)
        self.assert_refuses("say ( ( ( ( ( ( a + ( a + 1 ) ) ) ) ) ) )", 10)
        self.assert_refuses("say ( ( ( ( ( a + ( a + ( a + a ) ) ) ) ) ) )", 12)
        self.assertEqual(read_blocks("names a\nsay ( ( ( ( ( ( a - a ) ) ) ) ) )"), with_block(("say", ("minus", "a", "a"))))

    def test_brackets_around_nothing_or_one(self):
        self.assert_refuses("say ( a )", 4)
        self.assert_refuses("say ( 1 ) + 2", 4)
        self.assert_refuses("say b + ( a ) - b", 6)
        self.assert_refuses("say ( )", 3)
        self.assert_refuses("say ( ( a + b ) + ( 1 ) )", 11)
        self.assert_refuses("say ( ( a ) + b )", 5)

    def test_sums_that_cannot_stand(self):
        for line, word in (
            ("say", 2), ("say +", 2), ("say a +", 4), ("say a + +", 4), ("say a b", 3), ("say a + b )", 5), ("say )", 2),
            ("say ( a + b", 6), ("say ( a", 4), ("say (", 3), ("say ( a b", 4), ("say a - - 1", 4), ("say a+b", 2), ("say (a", 2),
            ("say c", 2), ("say p", 2), ("say = 0", 2), ("say a = 0", 3), ("say a 1", 3), ("say names", 2), ("say 1 2", 3),
            ("say ( a + b ) )", 7), ("say ( a + b ) a", 7), ("say ( a + b ) ( a + b )", 7), ("say ( a + b ( a", 6),
        ):
            self.assert_refuses(line, word)

    def test_numbers(self):
        for text, number in (("0", 0), ("1000", 1000), ("-1000", -1000), ("-1", -1), ("7", 7), ("-20", -20)):
            self.assert_says(text, number)
        zeros = ("-0", "00", "-00", "01", "-01", "007", "0" * 5000 + "3", "-" + "0" * 5000)
        for wrong in ("1001", "-1001", "+1", "--1", "-", "1.0", "1e2", "\u0661", "\u00b2", "9" * 6000, "1\t", *zeros,
                      "-" + "9" * 6000, "0x1", "1_0", "A", "\ta", "a\r", "a,", "True", "ab", "-a", "\uff11"):
            self.assert_refuses("say " + wrong, 2)
            self.assert_refuses("say a + " + wrong, 4)
            self.assert_refuses("repeat " + wrong, 2)
        for many in range(7):
            self.assertEqual(read_blocks(f"names a\nrepeat {many}\nend"), with_block(("repeat", many, ())))
            self.assert_refuses(f"repeat 0{many}", 2)
        for wrong in ("7", "-1", "a", "=", "(", "66", ""):
            self.assert_refuses("repeat " + wrong, 2)
        self.assert_refuses("repeat 1 + 1", 3)

    def test_tests(self):
        for word in ("if", "while"):
            for line, at in (
                ("", 2), ("a", 3), ("a =", 4), ("a 0", 3), ("a == 0", 3), ("a = 1", 4), ("a = a", 4), ("a = 0 0", 5),
                ("a != 00", 4), ("a = -0", 4), ("= 0", 2), ("a + = 0", 4), ("( a + b = 0", 6), ("( a = 0 )", 4),
                ("a <> 0", 3), ("a = 0 end", 5), ("a + b = 0 = 0", 7), ("a ! = 0", 3), ("0 = a", 4), ("a is 0", 3),
            ):
                self.assert_refuses(f"{word} {line}", at)
            for sign in ("=", "!="):
                blocks = ((), ()) if word == "if" else ((),)
                told = with_block((word, (("plus", "a", 1), sign == "="), *blocks))
                self.assertEqual(read_blocks(f"names a\n{word} a + 1 {sign} 0\nend"), told)

    def test_first_words(self):
        for line in ("a", "Say a", "says a", "+", "let=", "\tsay", "0", "names", "names c", "p", "(", ";", "to\t", "end;"):
            self.assert_refuses(line, 1)
            self.assert_refuses("  " + line, 1)
            self.assert_refuses(line, 1, "names a\nif a = 0\nstop")
        for line in ("say 1", "a", "to p", "end", "else", "stop", "\t", "name a"):
            self.assert_bad_line(line, 1, 1)
            self.assert_bad_line(" \n\n" + line + "\nnames a", 3, 1)
        self.assert_refuses("names a", 1, "names a")
        self.assert_refuses("names a", 1, "names a\nto p")

    def test_names(self):
        for line, word in (
            ("names", 2), ("names a b a", 4), ("names a a", 3), ("names a b c d e f", 7), ("names a b c d e e", 7),
            ("names abcdefghi", 2), ("names a B", 3), ("names a to", 3), ("names a1", 2), ("names a , b", 3), ("names \u00e9", 2),
            ("names a b c d if f", 6), ("names a b c d e F", 7), ("names if", 2), ("names a\tb", 2), ("names -", 2),
        ):
            self.assert_bad_line(line, 1, word)
            self.assert_bad_line(line + "\nx", 1, word)
        self.assertEqual(read_blocks("\n  \n names  a b   c d abcdefgh  "), (("a", "b", "c", "d", "abcdefgh"), (), ()))
        for word in block_helpers.RESERVED:
            self.assert_bad_line("names a " + word, 1, 3)
            self.assert_refuses("to " + word, 2)

    def test_procedures(self):
        for line, word in (
            ("to", 2), ("to p", 2), ("to Q", 2), ("to q r", 3), ("to abcdefghi", 2), ("to 1", 2), ("do", 2), ("do q", 2),
            ("do a", 2), ("do p p", 3), ("do P", 2), ("do 1", 2), ("do names", 2),
        ):
            self.assert_refuses(line, word)
        self.assert_refuses("do p", 2, "names a\nto p")
        self.assert_refuses("do q", 2, "names a\nto p")
        self.assert_refuses("do q", 2, "names a\nto p\nend\nto q\ndo p\nrepeat 1")
        self.assert_refuses("to q", 1, "names a\nto p")
        self.assert_refuses("to q", 1, "names a\nto p\nif a = 0")
        self.assert_refuses("to q", 1, "names a\nif a = 0")
        self.assert_refuses("to q", 1, "names a\nstop")
        self.assert_refuses("to q", 1, "names a\nrepeat 0\nend")
        self.assert_refuses("to q", 1, "names a\nto p\nend\nrepeat 0")
        four = "names a" + "".join(f"\nto {name}\nend" for name in "abcd")
        self.assert_refuses("to e", 1, four)
        self.assert_refuses("to a", 1, four)
        self.assertEqual(read_blocks(four + "\ndo a\ndo d")[2], (("do", "a"), ("do", "d")))
        self.assertEqual(read_blocks("names a\nto p\nend\nto q\ndo p\nend\ndo q\ndo p"), (
            ("a",), (("p", ()), ("q", (("do", "p"),))), (("do", "q"), ("do", "p"))))

    def test_else_and_end(self):
        self.assert_refuses("else", 1)
        self.assert_refuses("end", 1)
        self.assert_refuses("end", 1, "names a")
        self.assert_refuses("end", 1, "names a\nif a = 0\nend")
        for opened in ("while a = 0", "repeat 1", "to p", "if a = 0\nelse", "if a = 0\nrepeat 2", "if a = 0\nstop\nelse\nstop"):
            self.assert_refuses("else", 1, "names a\n" + opened)
            self.assert_refuses("end a", 2, "names a\n" + opened)
            self.assert_refuses("end end", 2, "names a\n" + opened)
        self.assert_refuses("else a", 2, "names a\nif a = 0")
        self.assert_refuses("else if a = 0", 2, "names a\nif a = 0")
        self.assert_refuses("stop stop", 2)
        self.assert_refuses("ask", 2)
        self.assert_refuses("ask p", 2)
        self.assert_refuses("ask a b", 3)
        for line, word in (("let", 2), ("let a", 3), ("let a =", 4), ("let p = 1", 2), ("let 1 = a", 2), ("let a a", 3),
                           ("let a != 1", 3), ("let a = = 1", 4), ("let a = a = 1", 5), ("let a= 1", 2), ("let = 1", 2)):
            self.assert_refuses(line, word)
        told = read_blocks("names a\nif a = 0\nif a = 0\nelse\nstop\nend\nelse\nask a\nend")
        self.assertEqual(told, with_block(("if", ("a", True), (("if", ("a", True), (), (("stop",),)),), (("ask", "a"),))))
        self.assertEqual(read_blocks("names a\nif a = 0\nelse\nend"), with_block(("if", ("a", True), (), ())))


class BoundTests(TextCase):
    def test_60_and_61_parts(self):
        for ahead in ("names a" + "\nstop" * 60, "names a\nto p" + "\nstop" * 59 + "\nend\ndo p",
                      "names a\nif a = 0" + "\nstop" * 30 + "\nelse" + "\nstop" * 29):
            for line in ("stop", "say", "repeat 1", "do x", "say a + +", "let x"):
                self.assert_refuses(line, 1, ahead)
        full = "names a\nif a = 0" + "\nstop" * 30 + "\nelse" + "\nstop" * 29
        self.assertEqual(len(read_blocks(full + "\nend")[2][0][3]), 29)
        self.assert_refuses("else", 1, full)

    def test_blocks_6_and_7_deep(self):
        for opener in ("if a = 0", "while a != 0", "repeat 2"):
            for head in ("names a", "names a\nto p"):
                ahead = head + ("\n" + opener) * 5
                for line in ("if a = 0", "while a = 0", "repeat 0", "if", "repeat x"):
                    self.assert_refuses(line, 1, ahead)
                self.assert_refuses("say b", 2, ahead)
                told = ahead + "\nstop" + "\nend" * ahead.count("\n")
                self.assertEqual(read_blocks(told), slow_read(told))
        self.assert_refuses("repeat 0", 1, "names a" + "\nif a = 0\nelse" * 5)
        once = "names a" + "\nrepeat 1" * 5 + "\nend"
        self.assert_refuses("say b", 2, once + "\nrepeat 1")

    def test_6_and_7_sums_within_one_another(self):
        self.assert_says("a + 1 - b + 2 - a + 3 - b", (
            "minus", ("plus", ("minus", ("plus", ("minus", ("plus", "a", 1), "b"), 2), "a"), 3), "b"))
        self.assert_refuses("say a + a + a + a + a + a + a + a", 15)
        self.assert_refuses("say a + a + a + a + a + a + a - a + +", 15)
        self.assert_refuses("say a + a + a + a + a + a + a - a ) x", 15)
        self.assert_refuses("say a + ( a + ( a + ( a + ( a + ( a + ( a + a ) ) ) ) ) )", 3)
        self.assert_refuses("let a = a + ( a + a + a + a + a + a + a )", 5)
        self.assert_refuses("let a = a + ( a + a + a + a + a + a + a + a )", 20)
        self.assert_refuses("let a = b - ( a + a + a + a + a + a + a )", 5)
        self.assert_refuses("if a + a + a + a + a + a + a - a = 0", 15)

    def test_the_sign_is_told_when_its_second_half_can_stand(self):
        seven = "say a + a + a + a + a + a + a"
        self.assert_refuses(seven + " - x", 16)
        self.assert_refuses(seven + " -", 16)
        self.assert_refuses(seven + " - ( a )", 18)
        self.assert_refuses(seven + " - ( a + a", 20)
        self.assert_refuses(seven + " - ( a + a )", 15)
        self.assert_refuses(seven + " - ( a + a ) x", 15)
        self.assert_refuses(seven + " - a + x", 15)
        self.assert_refuses("say a + ( a + a + a + a + a + a x", 16)

    def test_24_and_25_terms(self):
        eight = "( ( a + a ) + ( a + a ) + ( ( a + a ) + ( a + a ) ) )"
        seven = "( ( a + a ) + ( a + a ) + ( ( a + a ) + a ) )"
        said = read_blocks(f"names a\nsay {eight} + {eight} + {eight}")[2][0][1]
        self.assertEqual(slow_read(f"names a\nsay {eight} + {eight} + {eight}"), with_block(("say", said)))
        many = len(eight.split(" "))
        self.assert_refuses(f"say {eight} + {eight} + {eight} + a", 1 + 3 * many + 3)
        self.assert_refuses(f"say {eight} + {eight} + {eight} - a + x", 1 + 3 * many + 3)
        self.assert_refuses(f"say {eight} + {eight} + {eight} + x", 1 + 3 * many + 4)
        self.assert_refuses(f"say a + ( {eight} + {eight} + {eight} ) x", 3)
        self.assert_refuses(f"say a + ( {eight} + {eight} + {eight}", 3 * many + 7)
        self.assert_refuses(f"say {eight} + {eight} + ( {eight} + a )", 2 * many + 3)
        self.assertEqual(len(read_blocks(f"names a\nsay {eight} + {eight} + {seven} + a")[2]), 1)
        self.assert_refuses(f"say {eight} + {eight} + {seven} + ( a + a )", 1 + 2 * many + 2 + len(seven.split(" ")) + 1)

    def test_what_lacks_its_end(self):
        for text, line in (
            ("", 2), (" ", 2), ("\n", 3), ("\n\n \n", 5), ("names a\nto p", 3), ("names a\nto p\nstop\n", 5),
            ("names a\nif a = 0", 3), ("names a\nif a = 0\nelse\nstop\n\n", 7), ("names a\nrepeat 2\nwhile a = 0\nend", 5),
            ("names a\nto p\nrepeat 1\nend", 5),
        ):
            self.assert_bad_line(text, line, 1)

    def test_only_spaces_part_words(self):
        for sign in ("\t", "\r", "\u00a0", "\x0b", "\x0c", "\u2003", "\u2028", "\x1c", "\x85"):
            self.assert_bad_line(f"names a{sign}b", 1, 2)
            self.assert_bad_line(f"names a\n{sign}", 2, 1)
            self.assert_bad_line(f"names a\nsay a{sign}", 2, 2)
            self.assert_bad_line(f"names a\nsay a {sign}", 2, 3)
            self.assert_bad_line(f"names a{sign}\nsay a", 1, 2)


class ChangeTests(TextCase):
    WORDS = ("names", "to", "end", "let", "say", "ask", "if", "else", "while", "repeat", "do", "stop", "a", "b", "p", "q", "c",
             "0", "1", "-1", "7", "01", "-0", "1001", "+", "-", "(", ")", "=", "!=", "x1", "")

    def assert_is_read_alike(self, text):
        told = answer(text)
        self.assertEqual(told, slow_read(text), text)
        if len(told) == 3:
            self.assertEqual(read_blocks(write_blocks(told)), told)

    def test_every_single_word(self):
        for text in (TEXT, LONG):
            self.assertEqual(len(answer(text)), 3)
            lines = text.split("\n")
            for at, line in enumerate(lines):
                words = line.split(" ")
                for spot in range(len(words)):
                    for more in ([], [words[spot]] * 2, [words[spot]] * 3, *[[word] for word in self.WORDS]):
                        changed = " ".join(words[:spot] + list(more) + words[spot + 1:])
                        self.assert_is_read_alike("\n".join(lines[:at] + [changed] + lines[at + 1:]))

    def test_every_single_line(self):
        for text in (TEXT, LONG):
            lines = text.split("\n")
            for at, line in enumerate(lines):
                for more in ([], [line] * 2, [line] * 3, ["else"], ["end"], ["end", line], [line, "end"], ["to q", line]):
                    self.assert_is_read_alike("\n".join(lines[:at] + more + lines[at + 1:]))
            for count in range(len(lines)):
                self.assert_is_read_alike("\n".join(lines[:count]))

    def test_random_changes(self):
        source = random.Random(92)
        for _ in range(1500):
            lines = [line.split(" ") for line in
                     write_blocks(block_helpers.random_blocks(source, source.choice((4, 12, 60)))).split("\n")]
            for _ in range(source.randint(1, 3)):
                at = source.randrange(len(lines))
                spot = source.randrange(len(lines[at]))
                kind = source.randrange(4)
                if kind == 0:
                    lines[at][spot] = source.choice(self.WORDS)
                elif kind == 1:
                    lines[at].insert(spot, source.choice(self.WORDS))
                elif kind == 2:
                    lines[at] = lines[at][:spot] + lines[at][spot + 1:] or [""]
                else:
                    lines.insert(at, list(source.choice(lines)))
            self.assert_is_read_alike("\n".join(" ".join(words) for words in lines))

    def test_random_sums(self):
        source = random.Random(93)
        ends = {2: 0, 3: 0}
        for _ in range(3000):
            words, opened = ["say"], 0
            while len(words) < 90:
                while source.random() < 0.35 and opened < 7:
                    words.append("(")
                    opened += 1
                words.append(source.choice("aab1"))
                while opened > 0 and source.random() < 0.4 and words[-2] != "(":
                    words.append(")")
                    opened -= 1
                if opened == 0 and source.random() < 0.1:
                    break
                words.append(source.choice("+-"))
            text = "names a b\n" + " ".join(words)
            self.assert_is_read_alike(text)
            ends[len(answer(text))] += 1
        self.assertGreater(min(ends.values()), 300)


if __name__ == "__main__":
    unittest.main()
