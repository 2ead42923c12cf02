"""A reader of the texts of block programs of its own, word by word, with stacks in the stead of functions."""

import re

FIRST_WORDS = ("names", "to", "end", "let", "say", "ask", "if", "else", "while", "repeat", "do", "stop")
OPENERS = ("if", "while", "repeat")


class Wrong(Exception):
    """The word at an index of a line, or behind its last word, cannot stand."""

    def __init__(self, at):
        super().__init__(at)
        self.at = at


def is_free(word):
    return re.fullmatch("[a-z]{1,8}", word) is not None and word not in FIRST_WORDS


def terms(value):
    return terms(value[1]) + terms(value[2]) if isinstance(value, tuple) else 1


def levels(value):
    return 1 + max(levels(value[1]), levels(value[2])) if isinstance(value, tuple) else 0


def pushed(level, value):
    """What a level of brackets has behind a value: the sum so far alone."""
    if not level:
        return [value]
    first, sign, at = level
    whole = (sign, first, value)
    if terms(whole) > 24 or levels(whole) > 6:
        raise Wrong(at)
    return [whole]


def number_of(word):
    """The integer of a sum that a word tells, None for another word."""
    told = re.fullmatch("(-?)(0|[1-9][0-9]{0,3})", word)
    if told is None or int(told[2]) > 1000 or (told[1] and int(told[2]) == 0):
        return None
    return int(told[1] + told[2])


def sum_at(words, at, names):
    """A sum that begins at a word, and the index of the word behind it."""
    stack, needs_half = [[]], True
    while True:
        word = words[at] if at < len(words) else ""
        if needs_half:
            if word == "(" and len(stack) < 7:
                stack.append([])
            elif word in names or number_of(word) is not None:
                stack[-1] = pushed(stack[-1], word if word in names else number_of(word))
                needs_half = False
            else:
                raise Wrong(at)
        elif word in ("+", "-"):
            stack[-1] += ["plus" if word == "+" else "minus", at]
            needs_half = True
        elif word == ")" and len(stack) > 1 and isinstance(stack[-1][0], tuple):
            value = stack.pop()[0]
            stack[-1] = pushed(stack[-1], value)
        elif len(stack) > 1:
            raise Wrong(at)
        else:
            return stack[0][0], at
        at += 1


def test_at(words, at, names):
    value, at = sum_at(words, at, names)
    for place, allowed in ((at, ("=", "!=")), (at + 1, ("0",))):
        if place >= len(words) or words[place] not in allowed:
            raise Wrong(place)
    return (value, words[at] == "="), at + 2


class SlowReader:
    def __init__(self):
        self.names, self.procedures, self.count = None, [], 0
        # Each open thing: its word, what it has beside its blocks, and its blocks so far.
        self.open = [["all", None, [[]]]]

    def depth(self):
        return 1 + sum(row[0] in OPENERS for row in self.open)

    def add(self, part):
        self.open[-1][2][-1].append(part)

    def line(self, words):
        word, innermost = words[0], self.open[-1]
        if word not in FIRST_WORDS or (self.names is None) != (word == "names"):
            raise Wrong(0)
        if word == "to" and (innermost[0] != "all" or innermost[2][0] or len(self.procedures) == 4):
            raise Wrong(0)
        if word == "else" and (innermost[0] != "if" or len(innermost[2]) == 2):
            raise Wrong(0)
        if word == "end" and innermost[0] == "all":
            raise Wrong(0)
        if word not in ("names", "to", "else", "end"):
            self.count += 1
            if self.count > 60 or (word in OPENERS and self.depth() == 6):
                raise Wrong(0)
        behind = getattr(self, "line_" + word)(words)
        if behind < len(words):
            raise Wrong(behind)

    def line_names(self, words):
        for at, name in enumerate(words):
            if at > 0 and (at == 6 or not is_free(name) or name in words[1:at]):
                raise Wrong(at)
        if len(words) == 1:
            raise Wrong(1)
        self.names = tuple(words[1:])
        return len(words)

    def line_to(self, words):
        if len(words) < 2 or not is_free(words[1]) or words[1] in dict(self.procedures):
            raise Wrong(1)
        self.open.append(["to", words[1], [[]]])
        return 2

    def line_else(self, words):
        self.open[-1][2].append([])
        return 1

    def line_end(self, words):
        word, head, blocks = self.open.pop()
        blocks = [tuple(block) for block in blocks]
        if word == "to":
            self.procedures.append((head, blocks[0]))
        else:
            self.add((word, head, *blocks, ()) if word == "if" and len(blocks) == 1 else (word, head, *blocks))
        return 1

    def line_let(self, words):
        for at, allowed in ((1, self.names), (2, ("=",))):
            if at >= len(words) or words[at] not in allowed:
                raise Wrong(at)
        value, behind = sum_at(words, 3, self.names)
        self.add(("let", words[1], value))
        return behind

    def line_say(self, words):
        value, behind = sum_at(words, 1, self.names)
        self.add(("say", value))
        return behind

    def line_ask(self, words):
        if len(words) < 2 or words[1] not in self.names:
            raise Wrong(1)
        self.add(("ask", words[1]))
        return 2

    def line_do(self, words):
        if len(words) < 2 or words[1] not in dict(self.procedures):
            raise Wrong(1)
        self.add(("do", words[1]))
        return 2

    def line_stop(self, words):
        self.add(("stop",))
        return 1

    def line_repeat(self, words):
        if len(words) < 2 or re.fullmatch("[0-6]", words[1]) is None:
            raise Wrong(1)
        self.open.append(["repeat", int(words[1]), [[]]])
        return 2

    def line_if(self, words):
        test, behind = test_at(words, 1, self.names)
        self.open.append([words[0], test, [[]]])
        return behind

    line_while = line_if


def slow_read(text):
    """The block program of a text, or the line and word of the first that cannot stand."""
    reader = SlowReader()
    lines = text.split("\n")
    for at, line in enumerate(lines):
        words = re.findall("[^ ]+", line)
        try:
            if words:
                reader.line(words)
        except Wrong as wrong:
            return (at + 1, wrong.at + 1)
    if reader.names is None or len(reader.open) > 1:
        return (len(lines) + 1, 1)
    return (reader.names, tuple(reader.procedures), tuple(reader.open[0][2][0]))
