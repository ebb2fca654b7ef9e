"""Whether values have the forms of which standings, runs and stories are made, whatever they are."""

from settledreads.texts import is_int


def is_row(value, many):
    """Whether it is a tuple of so many."""
    return isinstance(value, tuple) and len(value) == many


def is_number(value, low, high):
    """Whether it is an integer from low to high."""
    return is_int(value) and low <= value <= high


def are_numbers(value, many, low, high):
    """Whether it is a tuple of so many integers from low to high."""
    return is_row(value, many) and all([is_number(number, low, high) for number in value])


def is_ascending(rows):
    """Whether rows that can be compared are sorted, none of them twice."""
    return all([one < other for one, other in zip(rows, rows[1:])])
