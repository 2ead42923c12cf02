"""How texts are parted into words, and which words tell numbers."""

from restlesshelf.checks import check_string

FIGURES = "0123456789"


def lines_in(text):
    """For each line of a text the list of its words, which spaces alone part."""
    check_string(text)
    return [[word for word in line.split(" ") if word] for line in text.split("\n")]


def number_told(word, most):
    """The number that a word of plain figures tells, None for any other word and for a number above most.

    Plain figures are those by which a number is written: no zeros stand ahead of them.
    """
    if not word or (word[0] == "0" and len(word) > 1):
        return None
    number = 0
    for figure in word:
        if figure not in FIGURES:
            return None
        number = 10 * number + int(figure)
        # A word may have more figures than Python reads at once.
        if number > most:
            return None
    return number


def signed_number_told(word, most):
    """The same for a word that has a minus ahead of its figures if its number is below 0, and only then."""
    if word[:1] != "-":
        return number_told(word, most)
    number = number_told(word[1:], most)
    return None if number is None or number == 0 else -number
