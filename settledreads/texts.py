"""Lines, words, names and numbers, as all texts of the package have them."""

from settledreads.errors import BadText

LETTERS = "abcdefghijklmnopqrstuvwxyz"
DIGITS = "0123456789"
LONGEST_NAME = 8
MOST_DIGITS = 9


def lines_of(text):
    """The lines of a text: BadText(-1) for what is no string."""
    if not isinstance(text, str):
        raise BadText(-1)
    return text.split("\n")


def words_of(line):
    """The words of a line. Where blanks are too many, some words are empty, and fit nowhere."""
    return line.split(" ")


def is_name(word):
    """Whether a word has the form of a name."""
    return 1 <= len(word) <= LONGEST_NAME and all([letter in LETTERS for letter in word])


def number_of(word):
    """The number that a word tells, None if it has not the form of one."""
    if not 1 <= len(word) <= MOST_DIGITS or not all([letter in DIGITS for letter in word]):
        return None
    if len(word) > 1 and word[0] == "0":
        return None
    return int(word)


def is_int(value):
    """Whether a value is an integer: Python takes bools for integers, the document does not."""
    return isinstance(value, int) and not isinstance(value, bool)
