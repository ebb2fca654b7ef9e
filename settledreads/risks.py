"""Works under way: whether one may yet break a manner, whatever comes from where it is now."""

from settledreads.courses import Course, breaks_at_last
from settledreads.forms import is_row, is_same
from settledreads.manners import first_rest, first_tail
from settledreads.roads import NONE
from settledreads.running import is_kept
from settledreads.searches import MOST_STANDINGS, is_table, search
from settledreads.walks import LAWFUL, HouseWalk, all_keys, keys_known, run_of

SAFE = "safe"
RISKY = "risky"


def risk_of(house, road, moment, work, manner):
    """(SAFE, table), or (RISKY, events) of fewest events: TooMany."""
    if not is_kept(house.sheet, manner, work):
        return (RISKY, ())
    if not work.openings:
        return (SAFE, ())
    walk = HouseWalk(house, road, work.first_part, manner, keys_known(house, manner))
    table, way = search(walk, [standing_now(walk, moment, work)], MOST_STANDINGS)
    if way is None:
        return (SAFE, table)
    return (RISKY, run_of(house, walk, way)[2])


def is_risk(house, road, moment, work, manner, value):
    """Whether a value is such a result of risk_of as is right by itself."""
    if not work.openings or not is_kept(house.sheet, manner, work):
        return is_same(value, risk_of(house, road, moment, work, manner))
    if not is_row(value, 2):
        return False
    if value[0] == SAFE:
        walk = HouseWalk(house, road, work.first_part, manner, all_keys(house))
        return is_table(walk, [standing_now(walk, moment, work)], value[1])
    course = Course(house, road, work, moment.installed, moment.keeping_now)
    return value[0] == RISKY and breaks_at_last(course, value[1], lambda later: is_kept(house.sheet, manner, later))


def standing_now(walk, moment, work):
    """The standing of a work at a moment: of the editions that are held all is known."""
    openings = tuple([(line, number, *tail_now(walk.aim, work, at)) for line, number, at in work.openings])
    return walk.settled((openings, moment.installed, moment.keeping_now, rest_now(walk, work)))


def tail_now(manner, work, opening):
    """The tail of the opening with this number."""
    own = [numbers[0] for at, _, numbers, _ in work.told_reads if at == opening]
    return (own[-1],) if manner == "each" and own else first_tail(manner)


def rest_now(walk, work):
    """The mark of a work that keeps the manner so far."""
    numbers = [row[2][0] for row in work.told_reads]
    if walk.aim == LAWFUL:
        told = {place: worths[0] for _, place, _, worths in work.told_reads}
        return tuple([told.get(place, NONE) for place in range(len(walk.blank))])
    if walk.aim in ("one", "forward") and numbers:
        return numbers[-1]
    return first_rest(walk.aim, work.begun_by)[0]
