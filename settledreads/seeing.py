"""What works of a house may see, whatever is installed: always a manner kept, or a run that breaks it."""

from settledreads.courses import begun_course, breaks_at_last, one_road
from settledreads.errors import BadRun
from settledreads.forms import is_row
from settledreads.houses import number_of_part
from settledreads.manners import MANNERS, check_manner
from settledreads.running import is_kept
from settledreads.searches import MOST_STANDINGS, is_table, search
from settledreads.walks import HouseWalk, keys_known, run_of


def sees(house, part, manner):
    """("always", table), or ("breaks", run) of fewest events: NoPart, BadManner, TooMany."""
    walk = walk_of(house, part, manner)
    table, way = search(walk, walk.starts(), MOST_STANDINGS)
    if way is None:
        return ("always", table)
    return ("breaks", run_of(house, walk, way))


def shows_sees(house, part, manner, value):
    """Whether a value is such a result of sees as is right by itself: NoPart, BadManner."""
    walk = walk_of(house, part, manner)
    if not is_row(value, 2):
        return False
    if value[0] == "always":
        return is_table(walk, walk.starts(), value[1])
    return value[0] == "breaks" and is_breaking(house, walk, value[1])


def walk_of(house, part, manner):
    """All runs of works that begin with a part: NoPart, BadManner."""
    number = number_of_part(house, part)
    check_manner(MANNERS, manner)
    return HouseWalk(house, one_road(house), number, manner, keys_known(house, manner))


def is_breaking(house, walk, run):
    """Whether the last event of a run breaks the manner, and none ahead: then it is a read."""
    try:
        course = begun_course(house, walk.road, walk.first_part, run)
    except BadRun:
        return False
    return breaks_at_last(course, run[2], lambda work: is_kept(house.sheet, walk.aim, work))
