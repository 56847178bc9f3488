"""Deeds as tuples of a name and numbers, and as lines."""

from murrine.errors import BadDeed, BadLine

# By name, how many numbers stand behind it.
NUMBERS = {
    "gather": 3,
    "pull": 2,
    "bundle": 4,
    "turn": 2,
    "cut": 2,
    "fuse": 2,
    "sell": 1,
    "waste": 1,
}

# By name, how many of the numbers, from the first on, are rods that are there already.
RODS = {
    "gather": 0,
    "pull": 1,
    "bundle": 4,
    "turn": 1,
    "cut": 1,
    "fuse": 2,
    "sell": 1,
    "waste": 1,
}

GREATEST = 999999999999999999
MOST_FIGURES = 18


def is_deed(deed):
    """Whether a tuple of texts and whole numbers tells a deed."""
    if len(deed) == 0 or deed[0] not in NUMBERS:
        return False
    numbers = deed[1:]
    return len(numbers) == NUMBERS[deed[0]] and all([is_deed_number(number) for number in numbers])


def written(deed):
    """The line that writes a deed."""
    if not is_deed(deed):
        raise BadDeed("the tuple is no deed")
    return " ".join([str(told) for told in deed])


def read(line):
    """The deed that a line writes."""
    words = line.split(" ")
    if not all([is_number_word(word) for word in words[1:]]):
        raise BadLine("the line writes no deed")
    deed = tuple([words[0]] + [int(word) for word in words[1:]])
    if not is_deed(deed):
        raise BadLine("the line writes no deed")
    return deed


def is_deed_number(told):
    """Whether what stands in a number's place is a number within the bounds."""
    return isinstance(told, int) and told >= 0 and told <= GREATEST


def is_number_word(word):
    """Whether a word writes a number as a deed has it: figures, without a needless nought ahead."""
    # A longer row of figures is beyond the bounds; Python refuses to read a very long one at all.
    if len(word) > MOST_FIGURES or not word.isascii() or not word.isdigit():
        return False
    return word == "0" or not word.startswith("0")
