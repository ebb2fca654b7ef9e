"""Works as stories tell them: by plans alone, whatever the programs are.

Where a work is, is told by (openings, kept, present). An opening is (part, number by each plan) and
a tail. Events are (word, number of the part), NONE where there is no part.
"""

from settledreads.errors import BadFirsts, BadStory
from settledreads.forms import are_numbers, is_ascending, is_number, is_row
from settledreads.manners import first_rest, first_tail, is_rest, is_tail, judged, rest_renumbered
from settledreads.roads import NONE, kept_beginnings, places_of, renumbered
from settledreads.texts import is_int

LOWEST_FIRST = -4
LONE_WORDS = ("read", "take", "back", "install")
QUIET_WORDS = ("take", "back", "install")
PART_WORDS = ("begin", "ask", "renew")


def event_of(road, value):
    """The event that a value tells, None if it has not the form of one."""
    if is_row(value, 1) and value[0] in LONE_WORDS:
        return (value[0], NONE)
    if is_row(value, 2) and value[0] in PART_WORDS and value[1] in road.part_names:
        return (value[0], road.part_names.index(value[1]))
    return None


def told_event(road, event):
    """An event as stories have it."""
    word, part = event
    return (word,) if part == NONE else (word, road.part_names[part])


def after(road, where, event, tail):
    """Where a work that has begun is behind an event, None if this one cannot come; tail is that of what it opens."""
    openings, kept, present = where
    word, part = event
    if word == "install":
        return openings, kept, present + 1
    if word == "renew":
        if part not in road.keeping or part in [opening[0] for opening in openings]:
            return None
        return openings, road.renewed(kept, part, present), present
    if word == "begin" or not openings:
        return None
    changed = after_own(road, where, event, tail)
    return None if changed is None else (changed, kept, present)


def after_own(road, where, event, tail):
    """The openings behind an event of the part that was opened last, None if this one cannot come."""
    openings, kept, present = where
    word, part = event
    last = openings[-1]
    if word == "read":
        return openings
    if word == "back":
        return openings[:-1]
    if word == "take":
        return (*openings[:-1], road.taken(last[0], last, present)) if road.may_take[last[0]] else None
    if part <= last[0]:
        return None
    numbers = road.opened(part, road.reads(last[0], last, kept, present), present)
    return (*openings, (part, *numbers, *tail))


class Tale:
    """A story that is told, with the reads so far: rows of (number of the opening, part, numbers of the editions)."""

    def __init__(self, road, firsts):
        self.road = road
        self.where = ((), firsts, 0)
        self.told_reads = []
        self.many_opened = 0
        self.first_part = NONE

    def goes_on(self, value):
        """Does what an event tells; False if it cannot come."""
        event = event_of(self.road, value)
        if event is None:
            return False
        where = after(self.road, self.where, event, (self.many_opened,)) if self.many_opened else self.begun(event)
        if where is None:
            return False
        if event[0] == "read":
            self.read()
        if event[0] in ("begin", "ask"):
            self.many_opened += 1
        self.where = where
        return True

    def begun(self, event):
        """Where the work is as it begins, None if this is another event."""
        word, part = event
        _, kept, present = self.where
        if word != "begin":
            return None
        self.first_part = part
        return ((part, *self.road.begun(part, present), self.many_opened),), kept, present

    def read(self):
        """The part that was opened last reads."""
        openings, kept, present = self.where
        last = openings[-1]
        self.told_reads.append((last[-1], last[0], self.road.reads(last[0], last, kept, present)))


def read_story(road, firsts, story):
    """The Tale of a whole story: BadFirsts, BadStory."""
    if not are_numbers(firsts, len(road.keeping), LOWEST_FIRST, 0):
        raise BadFirsts(firsts)
    if not isinstance(story, tuple):
        raise BadStory(0)
    tale = Tale(road, firsts)
    for number, value in enumerate(story):
        if not tale.goes_on(value):
            raise BadStory(number + 1)
    return tale


class PlanWalk:
    """All stories for a manner: standings are (openings, kept, present, *rest)."""

    def __init__(self, road, aim, doors):
        self.road = road
        self.aim = aim
        self.doors = doors
        parts = list(range(len(road.part_names)))
        words = [(word, NONE) for word in QUIET_WORDS]
        self.quiet_events = words + [(word, part) for word in ("ask", "renew") for part in parts]

    def starts(self):
        """All standings with which a work may begin."""
        rows = []
        for part in self.doors:
            for kept, present in kept_beginnings(len(self.road.keeping)):
                opening = (part, *self.road.begun(part, present), *first_tail(self.aim))
                rows.append(((opening,), kept, present, *first_rest(self.aim, present)))
        return rows

    def moves(self, standing):
        """What comes behind each event."""
        openings, kept, present, *rest = standing
        rows = []
        for event in self.quiet_events:
            where = after(self.road, (openings, kept, present), event, first_tail(self.aim))
            if where is not None:
                rows.append((event, False, (*where, *rest)))
        rows.append(self.reading(standing))
        return rows

    def reading(self, standing):
        """What comes behind a read."""
        openings, kept, present, *rest = standing
        last = openings[-1]
        many = 1 + self.road.many
        numbers = self.road.reads(last[0], last, kept, present)
        told = judged(self.aim, numbers, last[many:], rest)
        if told is None:
            return ("read", NONE), True, standing
        changed = (*openings[:-1], (*last[:many], *told[0]))
        return ("read", NONE), False, (changed, kept, present, *told[1])

    def settled(self, raw):
        """The standing, with the numbers that held editions have in it."""
        openings, kept, present, *rest = raw
        numbers = self.road.held(openings, kept, present)
        places = places_of(numbers)
        told = rest_renumbered(self.aim, rest, numbers, places)
        return renumbered(openings, places), tuple([places[number] for number in kept]), places[present], *told

    def is_standing(self, value):
        """Whether a value is a standing by its form."""
        if not is_row(value, 3 + len(first_rest(self.aim, 0))):
            return False
        openings, kept, present, *rest = value
        if not is_int(present) or not are_numbers(kept, len(self.road.keeping), 0, present):
            return False
        if not self.are_openings(openings, present) or not is_rest(self.aim, rest, present):
            return False
        return self.road.are_held(openings, kept, present)

    def are_openings(self, openings, present):
        """Whether a value is a tuple of openings, each of a part that the one ahead may ask."""
        if not isinstance(openings, tuple) or not all([self.is_opening(opening, present) for opening in openings]):
            return False
        parts = [opening[0] for opening in openings]
        return parts[:1] in [[part] for part in self.doors] and is_ascending(parts)

    def is_opening(self, opening, present):
        """Whether a value is an opening of some part."""
        many = 1 + self.road.many
        if not is_row(opening, many + len(first_tail(self.aim))):
            return False
        part = opening[0]
        if not is_number(part, 0, len(self.road.part_names) - 1):
            return False
        return self.road.fits(part, opening, present) and is_tail(self.aim, opening[many:], present)
