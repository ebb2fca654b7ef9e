"""All runs of a house for a manner, through standings.

A standing is (openings, known, kept, *rest): known has a row for each held edition, of the worth of
each key, UNREAD for one that was not read of it. The last one is the present edition.
"""

from settledreads.courses import behind_read
from settledreads.forms import are_numbers, is_row
from settledreads.lits import all_worths
from settledreads.manners import first_rest, first_tail, is_rest, is_tail, judged, rest_renumbered
from settledreads.programs import READS
from settledreads.roads import NONE, kept_beginnings, places_of, renumbered
from settledreads.texts import is_int

UNREAD = -1
LAWFUL = "lawful"
# What needs the worths of all reads, where the others need those that programs hang on alone.
KNOWING = ("alike", "lawful")


class HouseWalk:
    """All runs of works that begin with one part of a house.

    Events are (word, what, worth): what is the number of a step, or of a part that is begun anew; of a
    read by which two plans part, worth is a pair. In standings, worths of the known keys may be known.
    """

    def __init__(self, house, road, part, aim, known_keys):
        self.program = house.program
        self.road = road
        self.first_part = part
        self.aim = aim
        self.key_sizes = house.sheet.sizes
        self.lawful_rows = rows_of(house.sheet)
        self.known_keys = known_keys
        self.blank = tuple([UNREAD for _ in self.key_sizes])

    def starts(self):
        """All standings with which a work may begin; none if it is over as it begins."""
        rows = []
        for kept, present in kept_beginnings(len(self.road.keeping)):
            numbers = self.road.begun(self.first_part, present)
            openings = self.program.opened((), self.first_part, numbers, first_tail(self.aim))
            if openings:
                known = tuple([self.blank for _ in range(present + 1)])
                rows.append((openings, known, kept, *self.rest_at_first(present)))
        return rows

    def rest_at_first(self, present):
        """The rest as a work begins."""
        return (self.blank,) if self.aim == LAWFUL else first_rest(self.aim, present)

    def moves(self, standing):
        """What comes behind each event."""
        openings, known, kept, *rest = standing
        rows = [(("install", NONE, NONE), False, (openings, (*known, self.blank), kept, *rest))]
        open_parts = [self.program.owners[opening[0]] for opening in openings]
        for part in self.road.keeping:
            if part not in open_parts:
                renewed = self.road.renewed(kept, part, len(known) - 1)
                rows.append((("renew", part, NONE), False, (openings, known, renewed, *rest)))
        return rows + self.steps(standing)

    def steps(self, standing):
        """What comes behind the step of the work."""
        openings, known, kept, *rest = standing
        statement = self.program.statements[openings[-1][0]]
        if statement[0] in READS:
            return self.readings(standing, statement)
        where = (openings, kept, len(known) - 1)
        rows = []
        for choice in range(len(statement[-1])):
            changed = self.program.stepped(self.road, where, choice, first_tail(self.aim))
            rows.append((("step", choice, NONE), False, (changed, known, kept, *rest)))
        return rows

    def readings(self, standing, statement):
        """What comes behind a read, for each worth that it may give."""
        openings, known, kept = standing[:3]
        last = openings[-1]
        kind, place, _, _ = statement
        numbers = self.road.reads(self.program.owners[last[0]], last, kept, len(known) - 1)
        if numbers[0] != numbers[-1]:
            return [self.reading_by_two(standing, statement, numbers)]
        if kind == "read" and self.aim not in KNOWING:
            return [self.reading(standing, statement, numbers, UNREAD, known)]
        rows = []
        for worth in self.worths_left(known[numbers[0]], place):
            learnt = with_known(known, numbers[0], place, worth)
            rows.append(self.reading(standing, statement, numbers, worth, learnt))
        return rows

    def worths_left(self, row, place):
        """The worths that a key of an edition may have, of which this row is known: never none."""
        return [worth for worth in range(self.key_sizes[place]) if with_worth(row, place, worth) in self.lawful_rows]

    def reading(self, standing, statement, numbers, worth, known):
        """What comes behind a read that gives this worth; known is what is known then."""
        openings, _, kept, *rest = standing
        told = self.judged(statement[1], worth, numbers, openings[-1][1 + self.road.many:], rest)
        if told is None:
            return ("step", 0, worth), True, (openings, known, kept, *rest)
        return self.went(standing, statement, worth, known, told)

    def reading_by_two(self, standing, statement, numbers):
        """What comes behind a read that is of one edition by one plan, of another one by the other."""
        openings, known, kept, *rest = standing
        first, second = numbers
        place = statement[1]
        left = [self.worths_left(known[number], place) for number in numbers]
        unlike = [(one, other) for one in left[0] for other in left[1] if one != other]
        one, other = unlike[0] if unlike else (left[0][0], left[1][0])
        learnt = with_known(with_known(known, first, place, one), second, place, other)
        if unlike:
            return ("step", 0, (one, other)), True, (openings, learnt, kept, *rest)
        # Both can give one worth alone, the same: no work can tell these editions apart by this read.
        return self.went(standing, statement, one, learnt, (openings[-1][1 + self.road.many:], rest))

    def went(self, standing, statement, worth, known, told):
        """What comes behind a read of this worth that breaks nothing; told has the tail and the rest then."""
        openings, _, kept = standing[:3]
        changed = (*openings[:-1], (*openings[-1][:1 + self.road.many], *told[0]))
        line = behind_read(statement, worth)
        return ("step", 0, worth), False, (self.program.went_on(changed, line), known, kept, *told[1])

    def judged(self, place, worth, numbers, tail, rest):
        """(tail, rest) behind a read, None if it breaks the manner."""
        if self.aim != LAWFUL:
            return judged(self.aim, numbers, tail, rest)
        row = with_worth(rest[0], place, worth)
        return (tail, (row,)) if row in self.lawful_rows else None

    def settled(self, raw):
        """The standing, with the numbers that held editions have in it."""
        openings, known, kept, *rest = raw
        numbers = self.road.held(openings, kept, len(known) - 1)
        places = places_of(numbers)
        told = rest_renumbered(self.aim, rest, numbers, places)
        rows = tuple([known[number] for number in numbers])
        return renumbered(openings, places), rows, tuple([places[number] for number in kept]), *told

    def is_standing(self, value):
        """Whether a value is a standing by its form."""
        if not is_row(value, 3 + len(self.rest_at_first(0))):
            return False
        openings, known, kept, *rest = value
        if not isinstance(known, tuple) or not known or not all([self.is_known(row) for row in known]):
            return False
        present = len(known) - 1
        if not self.are_openings(openings, present) or not are_numbers(kept, len(self.road.keeping), 0, present):
            return False
        return self.is_rest(rest, present) and self.road.are_held(openings, kept, present)

    def is_known(self, row):
        """Whether a value is a row of what may be known of an edition."""
        if not self.is_part_of_one(row):
            return False
        return all([worth == UNREAD or place in self.known_keys for place, worth in enumerate(row)])

    def is_part_of_one(self, row):
        """Whether a value is a row of worths, or of some, that are part of some edition."""
        return are_numbers(row, len(self.key_sizes), UNREAD, max(self.key_sizes)) and row in self.lawful_rows

    def is_rest(self, rest, present):
        """Whether the rest of a standing, of the right length, can be such."""
        return self.is_part_of_one(rest[0]) if self.aim == LAWFUL else is_rest(self.aim, rest, present)

    def are_openings(self, openings, present):
        """Whether a value is a tuple of openings as the statements let them."""
        if not isinstance(openings, tuple) or not all([self.is_opening(opening, present) for opening in openings]):
            return False
        parts = [self.program.owners[opening[0]] for opening in openings]
        asked = [self.asked_at(opening[0]) for opening in openings[:-1]]
        return parts == [self.first_part, *asked]

    def asked_at(self, line):
        """The number of the part that is asked at a line, NONE if it is no ask."""
        kind, what, _, _ = self.program.statements[line]
        return what if kind == "ask" else NONE

    def is_opening(self, opening, present):
        """Whether a value is an opening at some place."""
        many = 1 + self.road.many
        if not is_row(opening, many + len(first_tail(self.aim))):
            return False
        line = opening[0]
        if not is_int(line) or line not in self.program.statements:
            return False
        part = self.program.owners[line]
        return self.road.fits(part, opening, present) and is_tail(self.aim, opening[many:], present)


def with_worth(row, place, worth):
    """The row with this worth of the key, None if it has another one."""
    if row[place] not in (UNREAD, worth):
        return None
    return (*row[:place], worth, *row[place + 1:])


def with_known(known, number, place, worth):
    """What is known of all editions, with this worth of a key of one of them."""
    return (*known[:number], with_worth(known[number], place, worth), *known[number + 1:])


def rows_of(sheet):
    """A dict of all rows of worths, or of some, that are part of some edition."""
    rows = {}
    for edition in sheet.editions:
        for signs in all_worths([2] * len(edition)):
            rows[tuple([worth if sign else UNREAD for sign, worth in zip(signs, edition)])] = True
    return rows


def all_keys(house):
    """The places of all keys."""
    return list(range(len(house.sheet.names)))


def keys_known(house, aim):
    """The places of the keys of which a manner has worths known: those of ifs alone, unless all reads are kept."""
    if aim in KNOWING:
        return all_keys(house)
    statements = list(house.program.statements.values())
    return [what for kind, what, _, _ in statements if kind == "if"]


def run_of(house, walk, way):
    """The run that goes a way of a search, with whole editions that have all worths that it read."""
    standing, events = way
    raw = standing
    for event in events:
        raw = [told for known_event, _, told in walk.moves(raw) if known_event == event][0]
    editions = [fitting(house.sheet, row) for row in raw[1]]
    many = len(standing[1])
    rows = []
    installed = many
    for word, what, _ in events:
        if word == "install":
            rows.append((word, editions[installed]))
            installed += 1
        else:
            rows.append((word, house.plan.parts[what] if word == "renew" else what))
    return tuple(editions[:many]), standing[2], tuple(rows)


def fitting(sheet, row):
    """The first edition that has what is known."""
    told = [edition for edition in sheet.editions if has_known(edition, row)]
    return told[0]


def has_known(edition, row):
    """Whether an edition has all that is known."""
    return all([worth in (UNREAD, told) for worth, told in zip(row, edition)])
