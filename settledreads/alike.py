"""Two ways of reading beside one another: alike for every work of a house, or a run by which they part."""

from settledreads.courses import begun_course, breaks_at_last
from settledreads.errors import BadRun
from settledreads.forms import is_row
from settledreads.houses import number_of_part
from settledreads.manners import ALIKE
from settledreads.roads import Road
from settledreads.searches import MOST_STANDINGS, is_table, search
from settledreads.walks import HouseWalk, all_keys, run_of


def alike(house, part, ways):
    """("alike", table), or ("apart", run) of fewest events: NoPart, BadWays, TooMany."""
    walk = walk_by_two(house, part, ways)
    table, way = search(walk, walk.starts(), MOST_STANDINGS)
    if way is None:
        return ("alike", table)
    return ("apart", run_of(house, walk, way))


def shows_alike(house, part, ways, value):
    """Whether a value is such a result of alike as is right by itself: NoPart, BadWays."""
    walk = walk_by_two(house, part, ways)
    if not is_row(value, 2):
        return False
    if value[0] == "alike":
        return is_table(walk, walk.starts(), value[1])
    return value[0] == "apart" and is_parting(house, walk, value[1])


def walk_by_two(house, part, ways):
    """All runs of works that begin with a part, gone through by the house's own ways and by these: NoPart, BadWays."""
    number = number_of_part(house, part)
    other = house.with_ways(ways)
    return HouseWalk(house, Road((house.plan, other.plan)), number, ALIKE, all_keys(house))


def is_parting(house, walk, run):
    """Whether both read unlike worths by the last event of a run, and by none ahead."""
    try:
        course = begun_course(house, walk.road, walk.first_part, run)
    except BadRun:
        return False
    return breaks_at_last(course, run[2], are_alike)


def are_alike(work):
    """Whether both have read the same worths."""
    return all([worths[0] == worths[1] for _, _, _, worths in work.told_reads])
