"""What works of a house may see, whatever is installed: always a manner kept, or a run that breaks it."""

from settledreads.courses import one_road, read_run
from settledreads.errors import BadRun
from settledreads.forms import is_row
from settledreads.houses import number_of_part
from settledreads.manners import MANNERS, check_manner
from settledreads.running import is_kept
from settledreads.searches import is_table, search
from settledreads.walks import UNREAD, HouseWalk

MOST_STANDINGS = 4000


def sees(house, part, manner):
    """("always", table), or ("breaks", run) of fewest events: NoPart, BadManner, TooMany."""
    walk = walk_of(house, part, manner)
    table, way = search(walk, MOST_STANDINGS)
    if way is None:
        return ("always", table)
    return ("breaks", run_of(house, walk, way))


def shows_sees(house, part, manner, value):
    """Whether a value is such a result of sees as is right by itself: NoPart, BadManner."""
    walk = walk_of(house, part, manner)
    if not is_row(value, 2):
        return False
    if value[0] == "always":
        return is_table(walk, value[1])
    return value[0] == "breaks" and is_breaking(house, walk, value[1])


def walk_of(house, part, manner):
    """All runs of works that begin with a part: NoPart, BadManner."""
    number = number_of_part(house, part)
    check_manner(MANNERS, manner)
    return HouseWalk(house, one_road(house), number, manner)


def run_of(house, walk, way):
    """The run that goes a way of a search, with whole editions that have all worths that it read."""
    standing, events = way
    raw = standing
    for event in events:
        raw = [told for known_event, _, told in walk.moves(raw) if known_event == event][0]
    editions = [fitting(house.sheet, row) for row in raw[1]]
    many = len(standing[1])
    rows = []
    installed = many
    for word, what, _ in events:
        if word == "install":
            rows.append((word, editions[installed]))
            installed += 1
        else:
            rows.append((word, house.plan.parts[what] if word == "renew" else what))
    return tuple(editions[:many]), standing[2], tuple(rows)


def fitting(sheet, row):
    """The first edition that has what is known."""
    for edition in sheet.editions:
        if all([worth in (UNREAD, told) for worth, told in zip(row, edition)]):
            return edition
    return None


def is_breaking(house, walk, run):
    """Whether the last event of a run breaks the manner, and none ahead: then it is a read."""
    try:
        course = read_run(house, walk.road, walk.first_part, run)
        ahead = read_run(house, walk.road, walk.first_part, (run[0], run[1], run[2][:-1]))
    except BadRun:
        return False
    if not is_kept(house.sheet, walk.aim, ahead.told_reads, course.begun_by):
        return False
    return not is_kept(house.sheet, walk.aim, course.told_reads, course.begun_by)
