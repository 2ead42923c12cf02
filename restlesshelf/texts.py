"""The texts of programs (point 15)."""

from restlesshelf.checks import BARE, GREATEST, JUMPS, MOST_RESTLESS, check_places, check_restless
from restlesshelf.errors import BadLine
from restlesshelf.lines import lines_in, number_told, signed_number_told

NUMBERED = ("get", "set", "plus", "minus", "put", "zero", "go", "touch")


def write_program(places, program):
    """The text of a restless or still program."""
    check_places(places)
    check_restless(program, places)
    return "\n".join([" ".join([str(part) for part in instruction]) for instruction in program])


def read_program(places, text):
    """The program that a text tells."""
    check_places(places)
    program = tuple([read_instruction(places, at + 1, words) for at, words in enumerate(lines_in(text))])
    for at, instruction in enumerate(program):
        if instruction[0] in JUMPS and instruction[1] > len(program):
            raise BadLine(at + 1, 2)
    if len(program) > MOST_RESTLESS:
        raise BadLine(MOST_RESTLESS + 1, 1)
    return program


def read_instruction(places, line, words):
    """The instruction that the words of a line tell, which may go to any line that a text may have."""
    if not words or words[0] not in BARE + NUMBERED:
        raise BadLine(line, 1)
    instruction = (words[0],)
    if words[0] in NUMBERED:
        number = second_number(places, words)
        if number is None:
            raise BadLine(line, 2)
        instruction = (words[0], number)
    if len(words) > len(instruction):
        raise BadLine(line, len(instruction) + 1)
    return instruction


def second_number(places, words):
    """The number that the second word of a line tells, None if it is missing or tells none that may stand there."""
    if len(words) == 1:
        return None
    word, told = words[0], words[1]
    if word == "put":
        return signed_number_told(told, GREATEST)
    if word in JUMPS:
        return number_told(told, MOST_RESTLESS)
    return number_told(told, places - 1)
