"""The texts of programs: point 15, and what point 1 says of their arguments."""

import random
import unittest

from restlesshelf.errors import BadLine
from restlesshelf.texts import read_program, write_program
from tests import helpers

ELEVEN = ("get", "set", "plus", "minus", "put", "say", "ask", "zero", "go", "stop", "touch")
ALL = (
    ("get", 0), ("set", 1), ("plus", 0), ("minus", 1), ("put", -1000000), ("put", 1000000), ("put", 0), ("say",),
    ("ask",), ("zero", 13), ("go", 0), ("stop",), ("touch", 1),
)
ALL_TEXT = (
    "get 0\nset 1\nplus 0\nminus 1\nput -1000000\nput 1000000\nput 0\nsay\nask\nzero 13\ngo 0\nstop\ntouch 1"
)


class ExampleTests(unittest.TestCase):
    def test_examples(self):
        self.assertEqual(write_program(2, (("put", -3), ("set", 1), ("say",))), "put -3\nset 1\nsay")
        self.assertEqual(read_program(2, " touch  1\nzero 2"), (("touch", 1), ("zero", 2)))
        with self.assertRaises(BadLine) as caught:
            read_program(2, "say\ngo 3")
        self.assertEqual((caught.exception.line, caught.exception.word), (2, 2))


class TextTests(unittest.TestCase):
    def assert_bad_line(self, text, line, word, places=2):
        helpers.assert_raises(self, "BadLine", (line, word), read_program, places, text)

    def test_each_instruction(self):
        self.assertEqual(write_program(2, ALL), ALL_TEXT)
        self.assertEqual(read_program(2, ALL_TEXT), ALL)

    def test_there_and_back(self):
        source = random.Random(51)
        for _ in range(200):
            places = source.randint(2, 5)
            program = helpers.random_restless(source, places, 20)
            text = write_program(places, program)
            self.assertEqual(read_program(places, text), program)
            self.assertEqual(text.count("\n") + 1, len(program))
            spaced = "\n".join(" " * source.randint(0, 3) + line.replace(" ", " " * source.randint(1, 3))
                               + " " * source.randint(0, 2) for line in text.split("\n"))
            self.assertEqual(read_program(places, spaced), program)

    def test_void_lines(self):
        for text, line in (("", 1), (" ", 1), ("\n", 1), ("say\n", 2), ("say\n\nsay", 2), ("say\n   \nsay", 2)):
            self.assert_bad_line(text, line, 1)
        self.assert_bad_line("say\nsay\n\n", 3, 1)

    def test_first_words(self):
        for word in ("SAY", "says", "sa", "0", "-", "\t", "say\t", "\u00a0say", "say;", "names", "let", "say\r", "Put"):
            self.assert_bad_line("ask\n" + word, 2, 1)
            self.assert_bad_line(f"  {word}  1 1", 1, 1)

    def test_second_words(self):
        for word in ELEVEN:
            if word in ("say", "ask", "stop"):
                self.assertEqual(read_program(2, word), ((word,),))
                for more in ("0", "x", "say", "\t", "-1"):
                    self.assert_bad_line(f"{word} {more}", 1, 2)
                self.assert_bad_line(f"say\n{word} 0 0", 2, 2)
                continue
            self.assert_bad_line(word, 1, 2)
            self.assert_bad_line(word + "   ", 1, 2)
            self.assertEqual(read_program(2, word + " 1"), ((word, 1),))
            for wrong in ("x", "+1", "1.0", "1e0", "--1", "-", "1-", "\u0661", "\u00b2", "1\t", "\t1", "1_0", "0x1", "say",
                          "1,", "'1'", "\u00a01", "1\r", "+0", "- 1", "None", "True", "0b1", "\uff11", "10000001"):
                self.assert_bad_line(f"say\n{word} {wrong}", 2, 2)
            self.assert_bad_line(f"{word} 1 1", 1, 3)
            self.assert_bad_line(f"{word} 1 x y", 1, 3)
            self.assert_bad_line(f"{word} x y", 1, 2)

    def test_a_minus_is_for_put_alone(self):
        self.assertEqual(read_program(2, "put -7\nput 0\nput -1000000"), (("put", -7), ("put", 0), ("put", -1000000)))
        for word in ELEVEN:
            if word not in ("put", "say", "ask", "stop"):
                self.assert_bad_line(word + " -1", 1, 2)
                self.assert_bad_line(word + " -0", 1, 2)

    def test_plain_figures(self):
        # A number is read as write_program writes it alone: no zeros ahead of it, and no minus ahead of 0.
        for word in ELEVEN:
            if word not in ("say", "ask", "stop"):
                self.assertEqual(read_program(2, f"{word} 0"), ((word, 0),))
                for wrong in ("00", "01", "001", "-00", "-01", "0" * 6000, "0" * 6000 + "1"):
                    self.assert_bad_line(f"{word} {wrong}", 1, 2)
                    self.assert_bad_line(f"say\n{word}  {wrong} x\nx", 2, 2)
        for wrong in ("-0", "-00", "-07", "-0" + "9" * 6000, "-" + "0" * 6000):
            self.assert_bad_line("put " + wrong, 1, 2)
        self.assertEqual(read_program(2, "put 10\nput -10\nput 1000000"), (("put", 10), ("put", -10), ("put", 1000000)))
        self.assert_bad_line("set 0\ngo 00 6\nsay\nset 2\n1\nzero 3\ntouch 0", 2, 2, 3)

    def test_bounds(self):
        self.assert_bad_line("put 1000001", 1, 2)
        self.assert_bad_line("put -1000001", 1, 2)
        self.assert_bad_line("put " + "9" * 6000, 1, 2)
        self.assert_bad_line("put -" + "9" * 6000, 1, 2)
        for word in ("get", "set", "plus", "minus", "touch"):
            for places in (2, 3, 4, 5):
                self.assertEqual(read_program(places, f"{word} {places - 1}"), ((word, places - 1),))
                self.assert_bad_line(f"{word} {places}", 1, 2, places)
        self.assert_bad_line("get " + "1" * 6000, 1, 2)

    def test_jumps(self):
        for word in ("zero", "go"):
            self.assertEqual(read_program(2, f"say\n{word} 2"), (("say",), (word, 2)))
            self.assert_bad_line(f"say\n{word} 3\n" + word + " 3\ngo 9", 2 + 2, 2)
            self.assert_bad_line(f"{word} 4\nsay\n{word} 5", 1, 2)
            self.assert_bad_line(f"{word} 4000", 1, 2)
            self.assert_bad_line(f"{word} 4001", 1, 2)
            # Jumps are looked at when no other word is wrong, but for those that could go nowhere.
            self.assert_bad_line(f"{word} 4000\nsay\nx", 3, 1)
            self.assert_bad_line(f"{word} 4001\nsay\nx", 1, 2)
            self.assert_bad_line(f"{word} " + "4" * 6000 + "\nx", 1, 2)

    def test_4000_lines_and_more(self):
        program = (("say",),) * 3999 + (("go", 4000),)
        text = "say\n" * 3999 + "go 4000"
        self.assertEqual(write_program(2, program), text)
        self.assertEqual(read_program(2, text), program)
        self.assert_bad_line("say\n" * 4000 + "go 4000", 4001, 1)
        self.assert_bad_line("say\n" * 4005 + "go 4000", 4001, 1)
        self.assert_bad_line("say\n" * 4000 + "x", 4001, 1)
        self.assert_bad_line("say\n" * 4000 + "go 4001", 4001, 2)
        self.assert_bad_line("say\n" * 4004 + "get 2", 4005, 2)
        self.assert_bad_line("say\n" * 4000, 4001, 1)
        self.assert_bad_line("say\n" * 10 + "x\n" + "say\n" * 4000 + "say", 11, 1)
        helpers.assert_raises(self, "BadProgram", (None,), write_program, 2, (("say",),) * 4001)

    def test_wrong_arguments(self):
        rows = [helpers.bad_numbers(2, 5), helpers.bad_restlesses()]
        helpers.assert_names_wrong_arguments(self, write_program, (2, (("touch", 1), ("say",))), rows)
        texts = helpers.awaited("BadString", (), [None, True, False, 0, (), [], {}, ("say",), ["say"], b"say", {0: 1}])
        texts += [("", "BadLine", (1, 1)), ("a", "BadLine", (1, 1))]
        helpers.assert_names_wrong_arguments(self, read_program, (2, "touch 1\nsay"), [helpers.bad_numbers(2, 5), texts])

    def test_every_single_word_is_changed(self):
        lines = ALL_TEXT.split("\n")
        for at, line in enumerate(lines):
            words = line.split(" ")
            for spot in range(len(words)):
                changed = words[:spot] + ["?"] + words[spot + 1:]
                text = "\n".join(lines[:at] + [" ".join(changed)] + lines[at + 1:])
                self.assert_bad_line(text, at + 1, spot + 1)
            text = "\n".join(lines[:at] + [line + " " + words[-1]] + lines[at + 1:])
            self.assert_bad_line(text, at + 1, len(words) + 1)


if __name__ == "__main__":
    unittest.main()
