"""All runs of a house for a manner, through standings.

A standing is (openings, known, kept, *rest): known has a row for each held edition, of the worth of
each key, UNREAD for one that was not read of it. The last one is the present edition.
"""

from settledreads.courses import behind_read
from settledreads.forms import are_numbers, is_row
from settledreads.lits import all_worths
from settledreads.manners import first_rest, first_tail, is_rest, is_tail, judged, rest_renumbered
from settledreads.programs import READS
from settledreads.roads import NONE, kept_beginnings, places_of, renumbered
from settledreads.texts import is_int

UNREAD = -1
LAWFUL = "lawful"


class HouseWalk:
    """All runs of works that begin with one part of a house.

    Events are (word, what, worth): what is the number of a step, or of a part that is begun anew.
    """

    def __init__(self, house, road, part, aim):
        self.program = house.program
        self.road = road
        self.first_part = part
        self.aim = aim
        self.key_sizes = house.sheet.sizes
        self.lawful_rows = rows_of(house.sheet)
        self.known_keys = keys_known(house, aim)
        self.blank = tuple([UNREAD for _ in self.key_sizes])

    def starts(self):
        """All standings with which a work may begin; none if it is over as it begins."""
        rows = []
        for kept, present in kept_beginnings(len(self.road.keeping)):
            numbers = self.road.begun(self.first_part, present)
            openings = self.program.opened((), self.first_part, numbers, first_tail(self.aim))
            if openings:
                known = tuple([self.blank for _ in range(present + 1)])
                rows.append((openings, known, kept, *self.rest_at_first(present)))
        return rows

    def rest_at_first(self, present):
        """The rest as a work begins."""
        return (self.blank,) if self.aim == LAWFUL else first_rest(self.aim, present)

    def moves(self, standing):
        """What comes behind each event."""
        openings, known, kept, *rest = standing
        rows = [(("install", NONE, NONE), False, (openings, (*known, self.blank), kept, *rest))]
        open_parts = [self.program.owners[opening[0]] for opening in openings]
        for part in self.road.keeping:
            if part not in open_parts:
                renewed = self.road.renewed(kept, part, len(known) - 1)
                rows.append((("renew", part, NONE), False, (openings, known, renewed, *rest)))
        return rows + self.steps(standing)

    def steps(self, standing):
        """What comes behind the step of the work."""
        openings, known, kept, *rest = standing
        statement = self.program.statements[openings[-1][0]]
        if statement[0] in READS:
            return self.readings(standing, statement)
        where = (openings, kept, len(known) - 1)
        rows = []
        for choice in range(len(statement[-1])):
            changed = self.program.stepped(self.road, where, choice, first_tail(self.aim))
            rows.append((("step", choice, NONE), False, (changed, known, kept, *rest)))
        return rows

    def readings(self, standing, statement):
        """What comes behind a read, for each worth that it may give."""
        openings, known, kept, *rest = standing
        kind, place, _, _ = statement
        last = openings[-1]
        numbers = self.road.reads(self.program.owners[last[0]], last, kept, len(known) - 1)
        number = numbers[0]
        if kind == "read" and self.aim != LAWFUL:
            return [self.reading(standing, statement, numbers, UNREAD, known)]
        rows = []
        for worth in range(self.key_sizes[place]):
            row = with_worth(known[number], place, worth)
            if row in self.lawful_rows:
                told = (*known[:number], row, *known[number + 1:])
                rows.append(self.reading(standing, statement, numbers, worth, told))
        return rows

    def reading(self, standing, statement, numbers, worth, known):
        """What comes behind a read that gives this worth; known is what is known then."""
        openings, _, kept, *rest = standing
        last = openings[-1]
        many = 1 + self.road.many
        told = self.judged(statement[1], worth, numbers, last[many:], rest)
        if told is None:
            return ("step", 0, worth), True, (openings, known, kept, *rest)
        changed = (*openings[:-1], (*last[:many], *told[0]))
        line = behind_read(statement, worth)
        return ("step", 0, worth), False, (self.program.went_on(changed, line), known, kept, *told[1])

    def judged(self, place, worth, numbers, tail, rest):
        """(tail, rest) behind a read, None if it breaks the manner."""
        if self.aim != LAWFUL:
            return judged(self.aim, numbers, tail, rest)
        row = with_worth(rest[0], place, worth)
        return (tail, (row,)) if row in self.lawful_rows else None

    def settled(self, raw):
        """The standing, with the numbers that held editions have in it."""
        openings, known, kept, *rest = raw
        numbers = self.road.held(openings, kept, len(known) - 1)
        places = places_of(numbers)
        told = rest_renumbered(self.aim, rest, numbers, places)
        rows = tuple([known[number] for number in numbers])
        return renumbered(openings, places), rows, tuple([places[number] for number in kept]), *told

    def is_standing(self, value):
        """Whether a value is a standing by its form."""
        if not is_row(value, 3 + len(self.rest_at_first(0))):
            return False
        openings, known, kept, *rest = value
        if not isinstance(known, tuple) or not known or not all([self.is_known(row) for row in known]):
            return False
        present = len(known) - 1
        if not self.are_openings(openings, present) or not are_numbers(kept, len(self.road.keeping), 0, present):
            return False
        return self.is_rest(rest, present) and self.road.are_held(openings, kept, present)

    def is_known(self, row):
        """Whether a value is a row of what may be known of an edition."""
        if not self.is_part_of_one(row):
            return False
        return all([worth == UNREAD or place in self.known_keys for place, worth in enumerate(row)])

    def is_part_of_one(self, row):
        """Whether a value is a row of worths, or of some, that are part of some edition."""
        return are_numbers(row, len(self.key_sizes), UNREAD, max(self.key_sizes)) and row in self.lawful_rows

    def is_rest(self, rest, present):
        """Whether the rest of a standing, of the right length, can be such."""
        return self.is_part_of_one(rest[0]) if self.aim == LAWFUL else is_rest(self.aim, rest, present)

    def are_openings(self, openings, present):
        """Whether a value is a tuple of openings as the statements let them."""
        if not isinstance(openings, tuple) or not all([self.is_opening(opening, present) for opening in openings]):
            return False
        parts = [self.program.owners[opening[0]] for opening in openings]
        asked = [self.asked_at(opening[0]) for opening in openings[:-1]]
        return parts == [self.first_part, *asked]

    def asked_at(self, line):
        """The number of the part that is asked at a line, NONE if it is no ask."""
        kind, what, _, _ = self.program.statements[line]
        return what if kind == "ask" else NONE

    def is_opening(self, opening, present):
        """Whether a value is an opening at some place."""
        many = 1 + self.road.many
        if not is_row(opening, many + len(first_tail(self.aim))):
            return False
        line = opening[0]
        if not is_int(line) or line not in self.program.statements:
            return False
        part = self.program.owners[line]
        return self.road.fits(part, opening, present) and is_tail(self.aim, opening[many:], present)


def with_worth(row, place, worth):
    """The row with this worth of the key, None if it has another one."""
    if row[place] not in (UNREAD, worth):
        return None
    return (*row[:place], worth, *row[place + 1:])


def rows_of(sheet):
    """A dict of all rows of worths, or of some, that are part of some edition."""
    rows = {}
    for edition in sheet.editions:
        for signs in all_worths([2] * len(edition)):
            rows[tuple([worth if sign else UNREAD for sign, worth in zip(signs, edition)])] = True
    return rows


def keys_known(house, aim):
    """The places of the keys of which worths may be known: those of ifs alone, unless all reads are kept."""
    if aim == LAWFUL:
        return list(range(len(house.sheet.names)))
    statements = list(house.program.statements.values())
    return [what for kind, what, _, _ in statements if kind == "if"]
