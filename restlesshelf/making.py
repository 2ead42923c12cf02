"""The still programs that block programs are (point 41)."""

from restlesshelf.blockforms import check_block_program
from restlesshelf.checks import FEWEST_PLACES, MOST_STILL
from restlesshelf.errors import TooMany


class Maker:
    """A still program in the making, whose books 0, 1 and so on are the names of a block program."""

    def __init__(self, names, procedures):
        self.names = names
        self.bodies = dict(procedures)
        self.rows = []
        self.lengths = {}
        # Each does only procedures before it.
        for name, body in procedures:
            self.lengths[name] = self.block_length(body)

    def block_length(self, block):
        """How many instructions a block makes."""
        return sum([self.part_length(part) for part in block])

    def part_length(self, part):
        word = part[0]
        if word == "let":
            return len(self.sum_rows(part[2])) + 1
        if word == "say":
            return len(self.sum_rows(part[1])) + 1
        if word == "ask":
            return 2
        if word == "stop":
            return 1
        if word == "do":
            return self.lengths[part[1]]
        if word == "repeat":
            return part[1] * self.block_length(part[2])
        blocks = sum([self.block_length(block) for block in part[2:]])
        turns = 3 if word == "while" and part[1][1] else 2
        return len(self.sum_rows(part[1][0])) + blocks + turns

    def sum_rows(self, value):
        """The instructions that reckon a sum."""
        number, terms = reckoned(value, 1)
        added = [name for name, sign in terms if sign == 1]
        rows = [("put", number)]
        if number == 0 and added:
            rows = [("get", self.names.index(added[0]))]
            terms.remove((added[0], 1))
        for name, sign in terms:
            rows.append(("plus" if sign == 1 else "minus", self.names.index(name)))
        return rows

    def write(self, rows):
        self.rows.extend(rows)

    def write_jump(self, word):
        """Writes a jump whose goal is not known yet, and tells its index."""
        self.rows.append((word, 0))
        return len(self.rows) - 1

    def lead_here(self, at):
        """Lets a jump go to what is written next."""
        self.rows[at] = (self.rows[at][0], len(self.rows))

    def write_block(self, block):
        for part in block:
            # What makes nothing may be there so often that it could not be gone through.
            if self.part_length(part) > 0:
                self.write_part(part)

    def write_part(self, part):
        word = part[0]
        if word == "let":
            self.write(self.sum_rows(part[2]) + [("set", self.names.index(part[1]))])
        elif word == "say":
            self.write(self.sum_rows(part[1]) + [("say",)])
        elif word == "ask":
            self.write([("ask",), ("set", self.names.index(part[1]))])
        elif word == "stop":
            self.write([("stop",)])
        elif word == "do":
            self.write_block(self.bodies[part[1]])
        elif word == "repeat":
            for _ in range(part[1]):
                self.write_block(part[2])
        elif word == "if":
            self.write_if(part)
        else:
            self.write_while(part)

    def write_if(self, part):
        (value, is_for_0), first, second = part[1:]
        self.write(self.sum_rows(value))
        to_zero = self.write_jump("zero")
        self.write_block(second if is_for_0 else first)
        behind = self.write_jump("go")
        self.lead_here(to_zero)
        self.write_block(first if is_for_0 else second)
        self.lead_here(behind)

    def write_while(self, part):
        (value, is_for_0), block = part[1:]
        start = len(self.rows)
        self.write(self.sum_rows(value))
        behind = self.write_jump("zero")
        if is_for_0:
            to_block = behind
            behind = self.write_jump("go")
            self.lead_here(to_block)
        self.write_block(block)
        self.write([("go", start)])
        self.lead_here(behind)


def reckoned(value, sign):
    """A sum times a sign, as one number and a list of its names with their signs, in order."""
    if isinstance(value, int):
        return sign * value, []
    if isinstance(value, str):
        return 0, [(value, sign)]
    first, names = reckoned(value[1], sign)
    second, more = reckoned(value[2], sign if value[0] == "plus" else -sign)
    return first + second, names + more


def still_of(program):
    """The still program that a block program is."""
    check_block_program(program)
    names, procedures, block = program
    maker = Maker(names, procedures)
    if maker.block_length(block) > MOST_STILL:
        raise TooMany(MOST_STILL)
    maker.write_block(block)
    return tuple(maker.rows) if maker.rows else (("stop",),)


def places_of(program):
    """How many places a shelf for a block program has."""
    check_block_program(program)
    return max(FEWEST_PLACES, len(program[0]))
