"""The texts of block programs (point 42)."""

from restlesshelf.blockforms import check_block_program
from restlesshelf.errors import BadLine
from restlesshelf.lines import lines_in
from restlesshelf.phrasing import SIGN_WORDS, BlockReader, LineReader


def write_blocks(program):
    """The text of a block program."""
    check_block_program(program)
    names, procedures, block = program
    lines = ["names " + " ".join(names)]
    for name, body in procedures:
        lines.extend(["to " + name] + block_lines(body) + ["end"])
    return "\n".join(lines + block_lines(block))


def read_blocks(text):
    """The block program that a text tells."""
    lines = lines_in(text)
    reader = BlockReader()
    for at, words in enumerate(lines):
        if words:
            reader.read_line(LineReader(at + 1, words))
    if not reader.may_end():
        raise BadLine(len(lines) + 1, 1)
    return reader.program_read()


def block_lines(block):
    return [line for part in block for line in part_lines(part)]


def part_lines(part):
    word = part[0]
    if word == "let":
        return [f"let {part[1]} = {sum_text(part[2])}"]
    if word == "say":
        return ["say " + sum_text(part[1])]
    if word in ("ask", "do"):
        return [word + " " + part[1]]
    if word == "stop":
        return ["stop"]
    if word == "repeat":
        return [f"repeat {part[1]}"] + block_lines(part[2]) + ["end"]
    lines = [word + " " + condition_text(part[1])] + block_lines(part[2])
    if word == "if" and part[3]:
        lines.extend(["else"] + block_lines(part[3]))
    return lines + ["end"]


def condition_text(condition):
    value, is_for_0 = condition
    sign = "=" if is_for_0 else "!="
    return f"{sum_text(value)} {sign} 0"


def sum_text(value):
    if not isinstance(value, tuple):
        return str(value)
    sign, first, second = value
    behind = sum_text(second)
    if isinstance(second, tuple):
        behind = f"( {behind} )"
    return f"{sum_text(first)} {SIGN_WORDS[sign]} {behind}"
