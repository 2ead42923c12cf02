"""How the texts of block programs are read, word by word and line by line (point 42)."""

from restlesshelf.blockforms import (
    GREATEST_TERM,
    HOLDERS,
    MOST_DEEP,
    MOST_NAMES,
    MOST_PARTS,
    MOST_PROCEDURES,
    MOST_ROUNDS,
    PART_LENGTHS,
    is_free_word,
    is_sum,
)
from restlesshelf.errors import BadLine
from restlesshelf.lines import number_told, signed_number_told

MOST_OPEN = 6
SIGN_WORDS = {"plus": "+", "minus": "-"}
SIGNS_BY_WORD = {"+": "plus", "-": "minus"}


class LineReader:
    """The words of a line, which are taken one behind the other."""

    def __init__(self, line, words):
        self.line = line
        self.words = words
        self.at = 0

    def here(self):
        """The word that comes next, a void one behind the last."""
        return self.words[self.at] if self.at < len(self.words) else ""

    def refuse(self):
        """The word that comes next cannot stand, or is lacking."""
        raise BadLine(self.line, self.at + 1)

    def take(self):
        self.at += 1
        return self.words[self.at - 1]

    def take_one_of(self, words):
        if self.here() not in words:
            self.refuse()
        return self.take()

    def take_free_word(self):
        if not is_free_word(self.here()):
            self.refuse()
        return self.take()

    def take_number(self, number):
        """Takes a word for the number that it tells, None if it tells none that may stand there."""
        if number is None:
            self.refuse()
        self.at += 1
        return number

    def finish(self):
        if self.at < len(self.words):
            self.refuse()

    def take_sum(self, names, opened):
        """Takes a sum behind so many brackets that are open."""
        value = self.take_half(names, opened)
        while self.here() in SIGNS_BY_WORD:
            at = self.at
            sign = SIGNS_BY_WORD[self.take()]
            value = (sign, value, self.take_half(names, opened))
            if not is_sum(value, names):
                raise BadLine(self.line, at + 1)
        return value

    def take_half(self, names, opened):
        """Takes an integer, a name, or a sum in brackets."""
        word = self.here()
        if word == "(" and opened < MOST_OPEN:
            self.take()
            value = self.take_sum(names, opened + 1)
            # Brackets are for sums of two or more alone.
            if not isinstance(value, tuple):
                self.refuse()
            self.take_one_of((")",))
            return value
        if word in names:
            return self.take()
        return self.take_number(signed_number_told(word, GREATEST_TERM))

    def take_condition(self, names):
        """Takes the test of an if or while."""
        value = self.take_sum(names, 0)
        is_for_0 = self.take_one_of(("=", "!=")) == "="
        self.take_one_of(("0",))
        return (value, is_for_0)


class Frame:
    """What is open in a text: the program's block, a procedure, or a part with its blocks."""

    def __init__(self, word, head):
        self.word = word
        self.head = head
        self.parts = []
        self.first_block = None


class BlockReader:
    """A block program that is read line by line."""

    def __init__(self):
        self.names = None
        self.procedures = []
        self.frames = [Frame("program", None)]
        self.parts_read = 0

    def may_end(self):
        return self.names is not None and len(self.frames) == 1

    def program_read(self):
        return (self.names, tuple(self.procedures), tuple(self.frames[0].parts))

    def read_line(self, line):
        """Reads a line that is not void."""
        word = line.here()
        if (self.names is None) != (word == "names") or not self.may_begin(word):
            line.refuse()
        line.take()
        if word == "names":
            self.names = self.take_names(line)
        elif word == "to":
            self.open_procedure(line)
        elif word == "else":
            self.turn_to_else()
        elif word == "end":
            self.close()
        else:
            self.read_part(word, line)
        line.finish()

    def may_begin(self, word):
        """Whether a line may begin with a word, if it may with names or with another one."""
        frame = self.frames[-1]
        if word == "to":
            has_room = len(self.procedures) < MOST_PROCEDURES
            return len(self.frames) == 1 and not frame.parts and has_room
        if word == "else":
            return frame.word == "if" and frame.first_block is None
        if word == "end":
            return len(self.frames) > 1
        if word in HOLDERS and self.deep() == MOST_DEEP:
            return False
        return word == "names" or (word in PART_LENGTHS and self.parts_read < MOST_PARTS)

    def deep(self):
        """How deep the block is in which the next part stands."""
        return 1 + len([frame for frame in self.frames if frame.word in HOLDERS])

    def take_names(self, line):
        names = []
        while line.here() or not names:
            if line.here() in names or len(names) == MOST_NAMES:
                line.refuse()
            names.append(line.take_free_word())
        return tuple(names)

    def may_be_done(self):
        """The names of the procedures that are read already."""
        return [name for name, _ in self.procedures]

    def open_procedure(self, line):
        if line.here() in self.may_be_done():
            line.refuse()
        self.frames.append(Frame("to", line.take_free_word()))

    def turn_to_else(self):
        frame = self.frames[-1]
        frame.first_block = tuple(frame.parts)
        frame.parts = []

    def close(self):
        """Closes what was opened last."""
        frame = self.frames.pop()
        block = tuple(frame.parts)
        if frame.word == "to":
            self.procedures.append((frame.head, block))
        elif frame.word != "if":
            self.add_part((frame.word, frame.head, block))
        elif frame.first_block is None:
            self.add_part(("if", frame.head, block, ()))
        else:
            self.add_part(("if", frame.head, frame.first_block, block))

    def add_part(self, part):
        self.frames[-1].parts.append(part)

    def read_part(self, word, line):
        """Reads the line of a part, whose blocks are read behind it."""
        self.parts_read += 1
        if word == "repeat":
            self.frames.append(Frame(word, line.take_number(number_told(line.here(), MOST_ROUNDS))))
        elif word in HOLDERS:
            self.frames.append(Frame(word, line.take_condition(self.names)))
        elif word == "let":
            name = line.take_one_of(self.names)
            line.take_one_of(("=",))
            self.add_part((word, name, line.take_sum(self.names, 0)))
        elif word == "say":
            self.add_part((word, line.take_sum(self.names, 0)))
        elif word == "ask":
            self.add_part((word, line.take_one_of(self.names)))
        elif word == "do":
            self.add_part((word, line.take_one_of(self.may_be_done())))
        else:
            self.add_part((word,))
