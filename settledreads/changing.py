"""From an elder edition to a newer one while works go on, so that none ever comes to a mix of both."""

from settledreads.changes import Changes
from settledreads.courses import is_edition_of, one_road
from settledreads.deeds import stages_of
from settledreads.errors import BadEdition, BadParts, BadPrices
from settledreads.forms import are_names, is_number, is_row, is_same
from settledreads.manners import check_manner
from settledreads.mixes import EachMix, RowWalk, WholeMix, ends_new
from settledreads.pricing import HIGHEST, LOWEST, are_prices
from settledreads.searches import search

MIX_MANNERS = ("each", "one")


def changeover(house, doors, old, new, manner, prices):
    """(price, deeds) of the least clean row that ends well: BadParts, BadEdition, BadManner, BadPrices."""
    check_change(house, doors, old, new)
    check_manner(MIX_MANNERS, manner)
    road = one_road(house)
    if not are_change_prices(prices, len(road.keeping), len(doors)):
        raise BadPrices(prices)
    return Changes(house, road, doors, judge_of(manner, (old, new))).least(prices)


def mix(house, doors, old, new, manner, deeds):
    """None of a clean row, else (part, number, events): BadParts, BadEdition, BadManner, BadDeeds."""
    walk = row_walk(house, doors, old, new, manner, deeds)
    _, way = search(walk, walk.starts())
    if way is None:
        return None
    standing, events = way
    return walk.road.part_names[walk.part_at(standing)], standing[1], events


def shows_mix(house, doors, old, new, manner, deeds, value):
    """Whether a value is such a result of mix as is right by itself: raises as mix."""
    walk = row_walk(house, doors, old, new, manner, deeds)
    if value is None:
        return search(walk, walk.starts())[1] is None
    if not is_row(value, 3) or value[0] not in doors or not is_number(value[1], 0, len(deeds)):
        return False
    part = walk.road.part_names.index(value[0])
    rows = [row for row in walk.starts_behind(value[1]) if walk.part_at(row) == part]
    return len(rows) == 1 and is_mixing(walk, rows[0], value[2])


def ends_well(house, doors, old, new, deeds):
    """Whether a row of deeds ends well, clean or not: BadParts, BadEdition, BadDeeds."""
    check_change(house, doors, old, new)
    road = one_road(house)
    return ends_new(house, road, doors, (old, new), stages_of(road, doors, deeds)[-1])


def check_change(house, doors, old, new):
    """BadParts, BadEdition for old, for new."""
    if not are_names(doors, house.plan.parts):
        raise BadParts(doors)
    for edition in (old, new):
        if not is_edition_of(house.sheet, edition):
            raise BadEdition(edition)


def are_change_prices(value, many_kept, many_doors):
    """Whether a value tells prices of begun parts, of closed doors and of waiting."""
    if not is_row(value, 3) or not are_prices(value[0], many_kept) or not are_prices(value[1], many_doors):
        return False
    return is_number(value[2], LOWEST, HIGHEST)


def judge_of(manner, pair):
    """What tells a mix of both editions."""
    return WholeMix(pair) if manner == "one" else EachMix(pair)


def row_walk(house, doors, old, new, manner, deeds):
    """All works beside a row of deeds: raises as mix."""
    check_change(house, doors, old, new)
    check_manner(MIX_MANNERS, manner)
    road = one_road(house)
    return RowWalk(house, road, doors, judge_of(manner, (old, new)), deeds, stages_of(road, doors, deeds))


def is_mixing(walk, standing, events):
    """Whether a value tells events behind a standing by whose last one the work comes to a mix."""
    if not isinstance(events, tuple):
        return False
    for number, event in enumerate(events):
        come = [row for row in walk.moves(standing) if is_same(event, row[0])] if standing[0] else []
        if not come:
            return False
        _, is_broken, standing = come[0]
        if is_broken:
            return number == len(events) - 1
    return False
