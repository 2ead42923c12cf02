"""What a block program must be (point 40)."""

from restlesshelf.checks import is_number, is_row
from restlesshelf.errors import BadBlock

MOST_NAMES = 5
MOST_LETTERS = 8
MOST_PROCEDURES = 4
MOST_PARTS = 60
MOST_DEEP = 6
MOST_ROUNDS = 6
MOST_SUMS = 6
MOST_TERMS = 24
GREATEST_TERM = 1000
LETTERS = "abcdefghijklmnopqrstuvwxyz"
RESERVED = ("names", "to", "end", "let", "say", "ask", "if", "else", "while", "repeat", "do", "stop")
SIGNS = ("plus", "minus")
PART_LENGTHS = {"let": 3, "say": 2, "ask": 2, "if": 4, "while": 3, "repeat": 3, "do": 2, "stop": 1}
# Those of the parts that have blocks, which stand behind two other things.
HOLDERS = ("if", "while", "repeat")
# What stands in the stead of how many parts may still come, behind what is no block or has too many.
NONE_LEFT = -1


def check_block_program(program):
    if not is_block_program(program):
        raise BadBlock("no block program")


def is_block_program(value):
    if not is_row(value, 3, 3):
        return False
    names, procedures, block = value
    if not are_names(names) or not is_row(procedures, 0, MOST_PROCEDURES):
        return False
    before = ()
    left = MOST_PARTS
    for procedure in procedures:
        if not is_row(procedure, 2, 2) or not is_free_word(procedure[0]) or procedure[0] in before:
            return False
        left = left_behind_block(procedure[1], 1, names, before, left)
        before += (procedure[0],)
    return left_behind_block(block, 1, names, before, left) != NONE_LEFT


def is_free_word(value):
    """Whether a value is a word that may be a name's or a procedure's."""
    if not isinstance(value, str) or not 1 <= len(value) <= MOST_LETTERS or value in RESERVED:
        return False
    return all([letter in LETTERS for letter in value])


def are_names(value):
    return is_row(value, 1, MOST_NAMES) and all([is_free_word(name) for name in value]) and are_unlike(value)


def are_unlike(words):
    return len(set(words)) == len(words)


def is_term(value, names):
    """Whether a value is a sum that is an integer or a name."""
    return value in names if isinstance(value, str) else is_number(value, -GREATEST_TERM, GREATEST_TERM)


def is_sum(value, names):
    return 1 <= terms_in(value, names, MOST_SUMS) <= MOST_TERMS


def terms_in(value, names, most):
    """How many integers and names are in a value of at most so many sums within one another, 0 for what is no sum."""
    if is_term(value, names):
        return 1
    if most == 0 or not is_row(value, 3, 3) or value[0] not in SIGNS:
        return 0
    first = terms_in(value[1], names, most - 1)
    second = terms_in(value[2], names, most - 1)
    return first + second if first > 0 and second > 0 else 0


def is_test(value, names):
    return is_row(value, 2, 2) and is_sum(value[0], names) and isinstance(value[1], bool)


def is_part(value, names, before):
    """Whether a value is a part, whatever its blocks are; before has the procedures that it may do."""
    if not is_row(value, 1, 4) or not isinstance(value[0], str) or len(value) != PART_LENGTHS.get(value[0]):
        return False
    word = value[0]
    if word == "let":
        return value[1] in names and is_sum(value[2], names)
    if word == "say":
        return is_sum(value[1], names)
    if word == "ask":
        return value[1] in names
    if word == "do":
        return value[1] in before
    if word == "repeat":
        return is_number(value[1], 0, MOST_ROUNDS)
    return word == "stop" or is_test(value[1], names)


def blocks_in(part):
    """The blocks of a part."""
    return part[2:] if part[0] in HOLDERS else ()


def left_behind_block(value, deep, names, before, left):
    """How many parts may come behind a block so deep, if so many may come from its beginning on.

    It looks at no more parts than may come: a value may have far more of them than things, if it has some often.
    """
    if deep > MOST_DEEP or not isinstance(value, tuple) or len(value) > left:
        return NONE_LEFT
    for part in value:
        if left < 1 or not is_part(part, names, before):
            return NONE_LEFT
        left -= 1
        for block in blocks_in(part):
            left = left_behind_block(block, deep + 1, names, before, left)
    return left
