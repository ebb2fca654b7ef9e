"""Whether values have the forms of which standings, runs and stories are made, whatever they are."""

from settledreads.texts import is_int


def is_row(value, many):
    """Whether it is a tuple of so many."""
    return isinstance(value, tuple) and len(value) == many


def is_number(value, low, high):
    """Whether it is an integer from low to high."""
    return is_int(value) and low <= value <= high


def are_numbers(value, many, low, high):
    """Whether it is a tuple of so many integers from low to high."""
    return is_row(value, many) and all([is_number(number, low, high) for number in value])


def is_ascending(rows):
    """Whether rows that can be compared are sorted, none of them twice."""
    return all([one < other for one, other in zip(rows, rows[1:])])


def are_names(value, names):
    """Whether it is an ascending tuple of one or more of these names."""
    if not isinstance(value, tuple) or not value or not all([name in names for name in value]):
        return False
    return is_ascending(value)


def is_same(value, wanted):
    """Whether it is just what is wanted, made of tuples, integers and strings: Python takes 1 and True for equal."""
    if isinstance(wanted, tuple):
        return is_row(value, len(wanted)) and all([is_same(one, other) for one, other in zip(value, wanted)])
    if is_int(wanted):
        return is_int(value) and value == wanted
    return value == wanted
