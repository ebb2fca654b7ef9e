"""Prices, and what may be chosen of some things."""

from settledreads.forms import are_numbers

LOWEST = 1
HIGHEST = 9


def are_prices(value, many):
    """Whether a value is a tuple of so many prices."""
    return are_numbers(value, many, LOWEST, HIGHEST)


def all_some(rows):
    """All tuples of some of these rows, perhaps of none, each in their sequence."""
    found = [()]
    for row in rows:
        found = found + [(*some, row) for some in found]
    return found
