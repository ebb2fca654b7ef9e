"""The orders of keepers as lines of journals, and whole journals."""

from settledreads.manners import MANNERS
from settledreads.statements import INDENT
from settledreads.texts import is_name, number_of

NO_MANNER = "none"


def journal_text(house_text, worths, manner, orders):
    """The journal of a keeper with this first edition, this first manner, and these orders that stand."""
    lines = [words_line("edition", worths), f"manner {manner_word(manner)}", "house"]
    lines.extend([INDENT + line for line in house_text.split("\n")])
    lines.append("orders")
    lines.extend([INDENT + order_line(order) for order in orders])
    return "\n".join(lines)


def words_line(word, numbers):
    """A line of a word with numbers."""
    return " ".join([word, *[str(number) for number in numbers]])


def manner_word(manner):
    """The word of a manner, or of none."""
    return NO_MANNER if manner is None else manner


def manner_by(word):
    """The manner that a word tells, None for none."""
    return None if word == NO_MANNER else word


def order_line(order):
    """The line of an order."""
    word, *rest = order
    if word == "install":
        return words_line(word, rest[0])
    if word == "step":
        return words_line(word, rest)
    return f"{word} {manner_word(rest[0])}"


def numbers_of(words):
    """The tuple of the numbers that words tell, None if there is none, or one is no number."""
    numbers = tuple([number_of(word) for word in words])
    return None if not words or None in numbers else numbers


def order_of(words, sizes):
    """The order that words tell, of a house with keys of these sizes; None if they tell none."""
    word, *rest = words
    if word == "install":
        return install_of(numbers_of(rest), sizes)
    if word == "step":
        numbers = numbers_of(rest)
        return (word, *numbers) if numbers is not None and len(numbers) == 2 else None
    if len(rest) != 1:
        return None
    if word in ("renew", "begin") and is_name(rest[0]):
        return (word, rest[0])
    if word == "manner" and rest[0] in (*MANNERS, NO_MANNER):
        return (word, manner_by(rest[0]))
    return None


def install_of(numbers, sizes):
    """The order that installs these worths, None if they are none, too many or too few, or too great."""
    if numbers is None or len(numbers) != len(sizes):
        return None
    return ("install", numbers) if all([number < size for number, size in zip(numbers, sizes)]) else None
