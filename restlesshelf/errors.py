"""The errors of the package."""


class ShelfError(ValueError):
    """The base class of all errors of the package."""


class BadHabit(ShelfError):
    """A value that is no habit; place is the first without a permutation, None for no tuple of them."""

    def __init__(self, place):
        super().__init__(f"no permutation at place {place}")
        self.place = place


class BadLayout(ShelfError):
    """A value that is no layout, permutation or order of books."""


class BadPlace(ShelfError):
    """A value that is no place of the shelf or of the lot, or no lot."""


class BadWord(ShelfError):
    """A value that is no word of places."""


class BadProgram(ShelfError):
    """A value that is no program; index is the first that is no instruction, None for no tuple of them."""

    def __init__(self, index):
        super().__init__(f"no instruction at index {index}")
        self.index = index


class BadInputs(ShelfError):
    """A value that is no tuple of inputs."""


class BadNumber(ShelfError):
    """A value that is no number within the bounds."""


class BadPlan(ShelfError):
    """A value that is no plan of the program."""


class BadHabits(ShelfError):
    """A value that is no habits; index is the first that does not fit, None for no tuple of so many."""

    def __init__(self, index):
        super().__init__(f"no fitting habit at index {index}")
        self.index = index


class BadStand(ShelfError):
    """A value that is no stand; index is the first that is no layout, None for no tuple of so many."""

    def __init__(self, index):
        super().__init__(f"no layout at index {index}")
        self.index = index


class BadNames(ShelfError):
    """A value that is no name, or no tuple of names."""


class NoWay(ShelfError):
    """What was asked for does not exist."""


class BadString(ShelfError):
    """A value that is no string."""


class BadLine(ShelfError):
    """A text with a word that cannot stand; line and word are counted from 1."""

    def __init__(self, line, word):
        super().__init__(f"line {line}, word {word} cannot stand")
        self.line = line
        self.word = word


class BadStep(ShelfError):
    """A value that is no step."""


class TooMany(ShelfError):
    """More than the most that are dealt with."""

    def __init__(self, most):
        super().__init__(f"more than {most}")
        self.most = most


class BadAnswer(ShelfError):
    """A value that is neither True nor False."""


class BadBlock(ShelfError):
    """A value that is no block program."""


class BadTree(ShelfError):
    """A value that is no tree of tests."""


class BadCopies(ShelfError):
    """A value that is no copies, or no copies for each used name."""


class BadLayouts(ShelfError):
    """A value that is no tuple of layouts that the shelf may have."""


class BadDeeds(ShelfError):
    """A value that is no deeds of a hand."""


class BadWeave(ShelfError):
    """A value that is no weave of two hands."""
