"""Works that go on with whole editions, and runs of them."""

from settledreads.errors import BadRun
from settledreads.forms import are_numbers, is_row
from settledreads.programs import READS
from settledreads.roads import Road
from settledreads.texts import is_int


class Work:
    """A work as it is at one moment: it is never changed, a step gives another one.

    An opening is (line, number by each plan, number of the opening); reads are rows of (number of the
    opening, place of the key, numbers of the editions, worths), numbers and worths by each plan.
    """

    def __init__(self, first_part, begun_by, openings, told_reads, many_opened):
        self.first_part = first_part
        self.begun_by = begun_by
        self.openings = openings
        self.told_reads = told_reads
        self.many_opened = many_opened

    def open_lines(self):
        """The places of all open parts, the first one ahead."""
        return tuple([opening[0] for opening in self.openings])

    def went(self, openings, rows, many):
        """The work with these openings, more reads, and so many more parts that were opened."""
        return Work(self.first_part, self.begun_by, openings, (*self.told_reads, *rows), self.many_opened + many)


def begun_work(house, road, part, present):
    """A work that begins with this part, at this edition."""
    openings = house.program.opened((), part, road.begun(part, present), (0,))
    return Work(part, present, openings, (), 1)


def open_parts(house, openings):
    """The numbers of the parts that are open."""
    return [house.program.owners[opening[0]] for opening in openings]


def stepped_work(house, road, work, installed, kept, choice):
    """The work behind its next step; None if it is over, or this is no choice of it."""
    if not work.openings or not is_int(choice):
        return None
    statement = house.program.statements[work.openings[-1][0]]
    if statement[0] in READS:
        return read_work(house, road, work, installed, kept) if choice == 0 else None
    where = (work.openings, kept, len(installed) - 1)
    openings = house.program.stepped(road, where, choice, (work.many_opened,))
    if openings is None:
        return None
    return work.went(openings, (), 1 if statement[0] == "ask" else 0)


def read_work(house, road, work, installed, kept):
    """The work behind a read, or an if."""
    last = work.openings[-1]
    statement = house.program.statements[last[0]]
    numbers = road.reads(house.program.owners[last[0]], last, kept, len(installed) - 1)
    worths = tuple([installed[number][statement[1]] for number in numbers])
    openings = house.program.went_on(work.openings, behind_read(statement, worths[0]))
    return work.went(openings, ((last[-1], statement[1], numbers, worths),), 0)


def behind_read(statement, worth):
    """The line behind a read that gives this worth."""
    kind, _, wanted, roads = statement
    return roads[1] if kind == "if" and worth != wanted else roads[0]


class Course:
    """A work that goes on, with the editions that were installed, and those that the kept parts keep."""

    def __init__(self, house, road, work, installed, kept):
        self.home = house
        self.road = road
        self.work = work
        self.installed = list(installed)
        self.keeping_now = kept

    def goes_on(self, event):
        """Does what an event tells; False if it cannot come."""
        if not is_row(event, 2):
            return False
        word, told = event
        if word == "step":
            return self.steps(told)
        if word == "install":
            return is_edition_of(self.home.sheet, told) and self.installs(told)
        return word == "renew" and told in self.road.part_names and self.renews(self.road.part_names.index(told))

    def installs(self, edition):
        """The edition is the present one."""
        self.installed.append(edition)
        return True

    def renews(self, part):
        """A kept part keeps the present edition; False if it is open, or not kept."""
        if part not in self.road.keeping or part in open_parts(self.home, self.work.openings):
            return False
        self.keeping_now = self.road.renewed(self.keeping_now, part, len(self.installed) - 1)
        return True

    def steps(self, choice):
        """The statement at the work's place is done; False if this step cannot come."""
        work = stepped_work(self.home, self.road, self.work, self.installed, self.keeping_now, choice)
        if work is None:
            return False
        self.work = work
        return True


def is_edition_of(sheet, value):
    """Whether a value is one of the editions of a sheet: integers alone, where Python takes bools for such."""
    return isinstance(value, tuple) and all([is_int(worth) for worth in value]) and value in sheet.editions


def are_editions(sheet, value):
    """Whether a value is a tuple of one or more editions of a sheet."""
    return isinstance(value, tuple) and len(value) > 0 and all([is_edition_of(sheet, edition) for edition in value])


def are_kept(road, editions, kept):
    """Whether a value tells which of the editions each kept part keeps: each but the last one is kept."""
    if not are_numbers(kept, len(road.keeping), 0, len(editions) - 1):
        return False
    return all([number in kept for number in range(len(editions) - 1)])


def begun_course(house, road, part, run):
    """The Course ahead of all events of a run of a work that begins with the part of this number: BadRun(0)."""
    if not is_row(run, 3) or not are_editions(house.sheet, run[0]) or not are_kept(road, run[0], run[1]):
        raise BadRun(0)
    if not isinstance(run[2], tuple):
        raise BadRun(0)
    return Course(house, road, begun_work(house, road, part, len(run[0]) - 1), run[0], run[1])


def read_run(house, road, part, run):
    """The Course behind all events of a run: BadRun."""
    course = begun_course(house, road, part, run)
    for number, event in enumerate(run[2]):
        if not course.goes_on(event):
            raise BadRun(number + 1)
    return course


def breaks_at_last(course, events, keeps):
    """Whether all of these events can come, and the work keeps what is asked for till the last one, and not behind it.

    keeps tells this of a Work.
    """
    if not isinstance(events, tuple) or not events:
        return False
    for event in events[:-1]:
        if not course.goes_on(event):
            return False
    return keeps(course.work) and course.goes_on(events[-1]) and not keeps(course.work)


def one_road(house):
    """How the parts of a house come to editions, by its own plan."""
    return Road((house.plan,))
