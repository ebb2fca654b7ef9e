"""How open parts come to the editions that they read, by one plan, or by two beside one another.

An opening is a tuple: first what tells where it is, then a number for each plan: of the edition that
it has for its own, NONE where the part is fresh or kept by this plan. What is behind these numbers
is its tail, which is not looked at here. Elder editions have lesser numbers.
"""

from settledreads.forms import is_number

NONE = -1
GONE = -2
OWNING = ("once", "handed")


class Road:
    """What plans with the same parts tell of them: parts have numbers here, as they stand in the plans."""

    def __init__(self, plans):
        first = plans[0]
        self.many = len(plans)
        self.part_names = first.parts
        self.may_take = first.takes
        self.part_ways = tuple([tuple([plan.ways[at] for plan in plans]) for at in range(len(first.parts))])
        self.keeping = tuple([at for at, ways in enumerate(self.part_ways) if "kept" in ways])

    def reads(self, part, opening, kept, present):
        """The numbers of the editions by which an opening of a part reads, by each plan."""
        keeps = kept[self.keeping.index(part)] if part in self.keeping else NONE
        ways = self.part_ways[part]
        return tuple([read_by(way, number, keeps, present) for way, number in zip(ways, opening[1:])])

    def opened(self, part, asked, present):
        """The numbers of a new opening of a part; asked are those by which its asker would read."""
        return tuple([opened_by(way, number, present) for way, number in zip(self.part_ways[part], asked)])

    def begun(self, part, present):
        """The numbers of the first opening of a work."""
        return self.opened(part, [present] * self.many, present)

    def taken(self, part, opening, present):
        """An opening of a part when it has taken the present edition."""
        numbers = [present if way in OWNING else NONE for way in self.part_ways[part]]
        return (opening[0], *numbers, *opening[1 + self.many:])

    def renewed(self, kept, part, present):
        """What the kept parts keep when one of them is begun anew."""
        return tuple([present if at == part else number for at, number in zip(self.keeping, kept)])

    def held(self, openings, kept, present):
        """The ascending list of the numbers of all editions that are held."""
        numbers = [present, *kept]
        for opening in openings:
            numbers.extend([number for number in opening[1:1 + self.many] if number != NONE])
        return sorted(set(numbers))

    def fits(self, part, opening, present):
        """Whether an opening of a part has numbers that can be such, up to the present one."""
        for way, number in zip(self.part_ways[part], opening[1:]):
            low, high = (0, present) if way in OWNING else (NONE, NONE)
            if not is_number(number, low, high):
                return False
        return True

    def are_held(self, openings, kept, present):
        """Whether each edition up to the present one is held, where no number is above it or below 0."""
        return len(self.held(openings, kept, present)) == present + 1


def read_by(way, number, keeps, present):
    """The edition by which a part with this way reads, which has this number for its own."""
    if way == "fresh":
        return present
    if way == "kept":
        return keeps
    return number


def opened_by(way, asked, present):
    """The number that an opening by this way has for its own."""
    if way == "once":
        return present
    if way == "handed":
        return asked
    return NONE


def places_of(numbers):
    """What each number of a held edition becomes when they are counted from 0; NONE stays."""
    places = {number: at for at, number in enumerate(numbers)}
    places[NONE] = NONE
    return places


def renumbered(openings, places):
    """The openings with other numbers, tails of numbers included: what is held no more is GONE."""
    return tuple([(row[0], *[places.get(number, GONE) for number in row[1:]]) for row in openings])


def kept_beginnings(many):
    """All (kept, present) with which a work may begin: each edition ahead of the present one is kept."""
    rows = []
    for present in range(many + 1):
        for kept in all_tuples(many, present + 1):
            if all([number in kept for number in range(present)]):
                rows.append((kept, present))
    return rows


def all_tuples(many, size):
    """All tuples of so many numbers below size."""
    rows = [()]
    for _ in range(many):
        rows = [(*row, number) for row in rows for number in range(size)]
    return rows
