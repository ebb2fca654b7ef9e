"""The least set of kept parts that must be begun anew, so that works keep a manner by the editions that there are."""

from settledreads.courses import are_editions, are_kept, one_road
from settledreads.errors import BadEditions, BadKept, BadParts, BadPrices
from settledreads.fixed import Fixed
from settledreads.forms import are_names, is_number, is_row, is_same
from settledreads.manners import MANNERS, check_manner
from settledreads.pricing import all_some, are_prices
from settledreads.roads import GONE, NONE
from settledreads.searches import is_table, search
from settledreads.walks import HouseWalk, all_keys

PRESENT = "present"


def anew(house, parts, editions, kept, manner, prices):
    """(price, set, tables, reasons): BadParts, BadEditions, BadKept, BadManner, BadPrices."""
    sets = priced_sets(house, parts, editions, kept, manner, prices)
    reasons = []
    tables, reason = told_with(house, parts, editions, kept, manner, sets[0][1])
    # With all kept parts begun anew each work reads the present edition alone: so this ends.
    while reason is not None:
        reasons.append((sets[len(reasons)][1], *reason))
        tables, reason = told_with(house, parts, editions, kept, manner, sets[len(reasons)][1])
    price, names = sets[len(reasons)]
    return price, names, tables, tuple(reasons)


def shows_anew(house, parts, editions, kept, manner, prices, value):
    """Whether a value is such a result of anew as is right by itself: raises as anew."""
    sets = priced_sets(house, parts, editions, kept, manner, prices)
    if not is_row(value, 4):
        return False
    found = [number for number, row in enumerate(sets) if is_same(value[:2], row)]
    if not found or not is_row(value[2], len(parts)) or not is_row(value[3], found[0]):
        return False
    walks = walks_with(house, parts, editions, kept, manner, sets[found[0]][1])
    if not all([is_table(walk, walk.starts(), table) for walk, table in zip(walks, value[2])]):
        return False
    for row, reason in zip(sets, value[3]):
        if not is_row(reason, 3) or not is_same(reason[0], row[1]) or reason[1] not in parts:
            return False
        walk = walks_with(house, (reason[1],), editions, kept, manner, row[1])[0]
        if not is_breaking(walk, reason[2]):
            return False
    return True


def priced_sets(house, parts, editions, kept, manner, prices):
    """(price, set) of all sets of kept parts in their sequence: raises as anew."""
    road = one_road(house)
    if not are_names(parts, house.plan.parts):
        raise BadParts(parts)
    if not are_editions(house.sheet, editions):
        raise BadEditions(editions)
    if not are_kept(road, editions, kept):
        raise BadKept(kept)
    check_manner((*MANNERS, PRESENT), manner)
    if not are_prices(prices, len(road.keeping)):
        raise BadPrices(prices)
    told = {road.part_names[part]: price for part, price in zip(road.keeping, prices)}
    rows = [(sum([told[name] for name in names]), len(names), names) for names in all_some(sorted(list(told)))]
    return [(price, names) for price, _, names in sorted(rows)]


def walks_with(house, parts, editions, kept, manner, names):
    """The works that begin with each of these parts, when the parts of a set were begun anew ahead."""
    road = one_road(house)
    present = len(editions) - 1
    numbers = [present if road.part_names[part] in names else number for part, number in zip(road.keeping, kept)]
    fixed = Fixed(house, road, editions, tuple(numbers), present)
    return [AnewWalk(house, fixed, road.part_names.index(part), manner) for part in parts]


def told_with(house, parts, editions, kept, manner, names):
    """With a set: (tables, None), or (None, (part, steps)) of the first part whose works break the manner."""
    tables = []
    for part, walk in zip(parts, walks_with(house, parts, editions, kept, manner, names)):
        table, way = search(walk, walk.starts())
        if way is not None:
            return None, (part, way[1])
        tables.append(table)
    return tuple(tables), None


class AnewWalk:
    """All works that begin with a part, by editions that are all known: standings are (openings, mark).

    Editions have the numbers here that they have in the row of all of them, all the time.
    """

    def __init__(self, house, fixed, part, aim):
        self.fixed = fixed
        self.first_part = part
        self.aim = aim
        self.forms = HouseWalk(house, fixed.road, part, aim, all_keys(house))

    def starts(self):
        """The standing with which a work begins; none if it is over as it begins."""
        openings = self.fixed.begun(self.first_part, (NONE,))
        rest = self.forms.rest_at_first(self.fixed.present_now)
        return [(openings, *rest)] if openings else []

    def moves(self, standing):
        """What comes behind each step."""
        openings, mark = standing
        if not self.fixed.is_read(openings):
            return [(choice, False, (changed, mark)) for choice, changed in self.fixed.others(openings, (NONE,))]
        place, number, worth = self.fixed.read_next(openings)
        told = self.judged(place, number, worth, openings[-1][-1:], (mark,))
        if told is None:
            return [(0, True, standing)]
        return [(0, False, (self.fixed.behind(openings, worth, told[0]), *told[1]))]

    def judged(self, place, number, worth, tail, rest):
        """(tail, rest) behind a read, None if it breaks the manner."""
        if self.aim == PRESENT:
            return (tail, rest) if worth == self.fixed.installed[-1][place] else None
        return self.forms.judged(place, worth, (number,), tail, rest)

    def settled(self, raw):
        """The standing as it is: no number changes."""
        return raw

    def is_standing(self, value):
        """Whether a value is a standing by its form."""
        if not is_row(value, 2) or not self.forms.are_openings(value[0], self.fixed.present_now):
            return False
        return GONE not in [opening[-1] for opening in value[0]] and self.is_mark(value[1])

    def is_mark(self, value):
        """Whether a value can be a mark."""
        if self.aim == PRESENT:
            return is_number(value, NONE, NONE)
        return self.forms.is_rest((value,), self.fixed.present_now) and value != GONE


def is_breaking(walk, steps):
    """Whether a value is a tuple of steps by whose last one, a read, the manner is broken."""
    if not isinstance(steps, tuple):
        return False
    rows = walk.starts()
    for number, step in enumerate(steps):
        if not rows or not rows[0][0]:
            return False
        come = [row for row in walk.moves(rows[0]) if is_same(step, row[0])]
        if not come:
            return False
        if come[0][1]:
            return number == len(steps) - 1
        rows = [come[0][2]]
    return False
