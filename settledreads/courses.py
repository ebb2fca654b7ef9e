"""Runs of works, gone through with whole editions.

An opening is (line, number by each plan, number of the opening); reads are rows of (number of the
opening, place of the key, numbers of the editions, worths), numbers and worths by each plan.
"""

from settledreads.errors import BadRun
from settledreads.forms import are_numbers, is_row
from settledreads.programs import READS
from settledreads.roads import Road
from settledreads.texts import is_int


class Course:
    """A work that goes on, with the editions that were installed."""

    def __init__(self, house, road, part, editions, kept):
        self.road = road
        self.home = house
        self.installed = list(editions)
        self.keeping_now = kept
        self.begun_by = len(editions) - 1
        self.told_reads = []
        self.many_opened = 1
        self.openings = house.program.opened((), part, road.begun(part, self.begun_by), (0,))

    def open_parts(self):
        """The numbers of all open parts."""
        return [self.home.program.owners[opening[0]] for opening in self.openings]

    def open_lines(self):
        """The places of all open parts, the first one ahead."""
        return tuple([opening[0] for opening in self.openings])

    def goes_on(self, event):
        """Does what an event tells; False if it cannot come."""
        if not is_row(event, 2):
            return False
        word, told = event
        if word == "step":
            return is_int(told) and self.steps(told)
        if word == "install":
            return is_edition_of(self.home.sheet, told) and self.installs(told)
        return word == "renew" and told in self.road.part_names and self.renews(self.road.part_names.index(told))

    def installs(self, edition):
        """The edition is the present one."""
        self.installed.append(edition)
        return True

    def renews(self, part):
        """A kept part keeps the present edition; False if it is open, or not kept."""
        if part not in self.road.keeping or part in self.open_parts():
            return False
        self.keeping_now = self.road.renewed(self.keeping_now, part, len(self.installed) - 1)
        return True

    def steps(self, choice):
        """The statement at the work's place is done; False if the work is over, or this is no choice of it."""
        if not self.openings:
            return False
        statement = self.home.program.statements[self.openings[-1][0]]
        if statement[0] in READS:
            return choice == 0 and self.reads_by(statement)
        present = len(self.installed) - 1
        tail = (self.many_opened,)
        openings = self.home.program.stepped(self.road, (self.openings, self.keeping_now, present), choice, tail)
        if openings is None:
            return False
        if statement[0] == "ask":
            self.many_opened += 1
        self.openings = openings
        return True

    def reads_by(self, statement):
        """A read, or an if."""
        _, place, _, _ = statement
        last = self.openings[-1]
        numbers = self.road.reads(self.open_parts()[-1], last, self.keeping_now, len(self.installed) - 1)
        worths = tuple([self.installed[number][place] for number in numbers])
        self.told_reads.append((last[-1], place, numbers, worths))
        self.openings = self.home.program.went_on(self.openings, behind_read(statement, worths[0]))
        return True


def behind_read(statement, worth):
    """The line behind a read that gives this worth."""
    kind, _, wanted, roads = statement
    return roads[1] if kind == "if" and worth != wanted else roads[0]


def is_edition_of(sheet, value):
    """Whether a value is one of the editions of a sheet: integers alone, where Python takes bools for such."""
    return isinstance(value, tuple) and all([is_int(worth) for worth in value]) and value in sheet.editions


def is_beginning(sheet, road, editions, kept):
    """Whether a run may begin with these editions, each of which but the last one is kept."""
    if not isinstance(editions, tuple) or not editions:
        return False
    if not all([is_edition_of(sheet, edition) for edition in editions]):
        return False
    if not are_numbers(kept, len(road.keeping), 0, len(editions) - 1):
        return False
    return all([number in kept for number in range(len(editions) - 1)])


def read_run(house, road, part, run):
    """The Course behind all events of a run of a work that begins with the part of this number: BadRun."""
    if not is_row(run, 3) or not isinstance(run[2], tuple) or not is_beginning(house.sheet, road, run[0], run[1]):
        raise BadRun(0)
    course = Course(house, road, part, run[0], run[1])
    for number, event in enumerate(run[2]):
        if not course.goes_on(event):
            raise BadRun(number + 1)
    return course


def one_road(house):
    """How the parts of a house come to editions, by its own plan."""
    return Road((house.plan,))
