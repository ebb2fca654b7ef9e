"""Searches through all standings that come, and closed tables of them.

A walk has starts(), all standings with which a work may begin, and, of a standing, moves(standing):
rows (event, whether it breaks the manner, what comes, with numbers as they were). settled(raw) is the
standing that this is, and is_standing tells forms. What comes has () for its openings where the work
is over.
"""

from settledreads.errors import TooMany
from settledreads.forms import is_ascending

MOST_STANDINGS = 4000


def search(walk, starts, most=None):
    """(table, None) of all standings that come, or (None, (first standing, events)) that break the manner soonest.

    TooMany if more than so many come by fewer events than the shortest way to a break has.
    """
    found = {standing: None for standing in starts}
    row = list(found)
    while row:
        if most is not None and len(found) > most:
            raise TooMany(most)
        later = []
        for standing in row:
            for event, is_broken, raw in walk.moves(standing):
                if is_broken:
                    return None, way_to(found, standing, event)
                if not raw[0]:
                    continue
                told = walk.settled(raw)
                if told not in found:
                    found[told] = (standing, event)
                    later.append(told)
        # A list of its own, since what is walked is never the list that grows.
        row = list(later)
    return tuple(sorted(list(found))), None


def way_to(found, standing, last):
    """(first standing, events) by which a standing was found, and the last event behind it."""
    events = [last]
    while found[standing] is not None:
        standing, event = found[standing]
        events.append(event)
    return standing, tuple(events[::-1])


def is_table(walk, starts, value):
    """Whether a value is an ascending tuple of standings by their form, closed, and has all of the starts."""
    if not isinstance(value, tuple) or not all([walk.is_standing(row) for row in value]):
        return False
    return is_ascending(value) and is_closed(walk, starts, value)


def is_closed(walk, starts, table):
    """Whether a table has all of the starts, and all that come behind its members, with no break."""
    held = {standing: True for standing in table}
    if not all([standing in held for standing in starts]):
        return False
    for standing in table:
        for _, is_broken, raw in walk.moves(standing):
            if is_broken or (raw[0] and walk.settled(raw) not in held):
                return False
    return True
