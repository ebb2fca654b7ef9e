"""Manners that hang on the numbers of editions alone, of standings and of reads that have been.

In a standing a manner keeps a tail behind the numbers of each opening, (own,), and a rest at the
end, (mark,). Of two plans beside one another (ALIKE) both are (), and each read has two numbers.
"""

from settledreads.errors import BadManner
from settledreads.forms import is_number
from settledreads.roads import GONE, NONE

PLAIN_MANNERS = ("begun", "each", "forward", "one")
MANNERS = ("begun", "each", "forward", "lawful", "one")
ALIKE = "alike"


def check_manner(manners, value):
    """BadManner for what is none of these."""
    if value not in manners:
        raise BadManner(value)


def first_tail(manner):
    """The tail of an opening by which nothing was read."""
    return () if manner == ALIKE else (NONE,)


def first_rest(manner, present):
    """The rest as a work begins."""
    if manner == ALIKE:
        return ()
    if manner == "begun":
        return (present,)
    if manner == "forward":
        return (0,)
    return (NONE,)


def judged(manner, numbers, tail, rest):
    """(tail, rest) behind a read of these editions, None if it breaks the manner."""
    number = numbers[0]
    if manner == ALIKE:
        return (tail, rest) if number == numbers[1] else None
    if manner == "each":
        return ((number,), rest) if tail[0] in (NONE, number) else None
    if manner == "forward":
        return (tail, (number,)) if rest[0] <= number else None
    # one, and begun: of this the mark is never NONE.
    return (tail, (number,)) if rest[0] in (NONE, number) else None


def rest_renumbered(manner, rest, numbers, places):
    """The rest when these numbers are held, each of which has another place now."""
    if manner == "forward":
        return (len([number for number in numbers if number < rest[0]]),)
    if manner in PLAIN_MANNERS:
        return (places.get(rest[0], GONE),)
    return rest


def is_tail(manner, tail, present):
    """Whether the tail of an opening, of the right length, can be such."""
    if manner == ALIKE:
        return True
    return is_number(tail[0], GONE if manner == "each" else NONE, present if manner == "each" else NONE)


def is_rest(manner, rest, present):
    """Whether the rest of a standing, of the right length, can be such."""
    if manner == ALIKE:
        return True
    if manner == "each":
        return is_number(rest[0], NONE, NONE)
    if manner == "forward":
        return is_number(rest[0], 0, present)
    if manner == "begun":
        return is_number(rest[0], GONE, present) and rest[0] != NONE
    return is_number(rest[0], GONE, present)


def keeps(manner, reads, begun):
    """Whether reads, rows of (number of the opening, numbers of the editions), keep the manner.

    begun is the number of the edition that was present as the work began.
    """
    if manner == ALIKE:
        return all([numbers[0] == numbers[1] for _, numbers in reads])
    rows = [numbers[0] for _, numbers in reads]
    if manner == "each":
        pairs = [(opening, numbers[0]) for opening, numbers in reads]
        return len(set(pairs)) == len(set([opening for opening, _ in reads]))
    if manner == "begun":
        return all([number == begun for number in rows])
    if manner == "forward":
        return all([one <= other for one, other in zip(rows, rows[1:])])
    return len(set(rows)) <= 1


def breaks_last(manner, reads, begun):
    """Whether the last one of the reads breaks the manner, and none ahead."""
    return keeps(manner, reads[:-1], begun) and not keeps(manner, reads, begun)
