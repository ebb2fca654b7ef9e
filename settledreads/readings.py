"""Readings: works by one's own statements, by the plan of a keeper's house alone."""

from settledreads.errors import NoKey, NoPart, Over, Waits
from settledreads.trials import is_undone


class Reading:
    """An opening of a part; owner is the keeper, asker the Reading that asked it, if there is one."""

    def __init__(self, owner, asker, opening):
        self.owner = owner
        self.asker = asker
        self.opened_in = owner.trying
        self.is_closed = False
        self.last_asked = None
        self.own_reads = []
        # By which edition it reads: what was taken in a trial that was not kept is taken back with it.
        self.own_openings = [(owner.trying, opening)]
        owner.remember(self)

    @property
    def part(self):
        """The name of its part."""
        return self.owner.road.part_names[self.part_number()]

    @property
    def rows(self):
        """The (key, worth, number of the edition) of its own reads."""
        return tuple(self.own_reads)

    def part_number(self):
        """The number of its part."""
        return self.own_openings[0][1][0]

    def is_over(self):
        """Whether it is over, by itself or with one that asked it, or with a trial that was not kept."""
        if self.is_closed or is_undone(self.opened_in):
            return True
        return self.asker is not None and self.asker.is_over()

    def check_free(self):
        """Over if it is over, Waits while one that it asked is open."""
        if self.is_over():
            raise Over(None)
        if self.last_asked is not None and not self.last_asked.is_over():
            raise Waits(None)

    def opening_now(self):
        """The opening as it is now, by the last taking that was not undone."""
        told = [opening for block, opening in self.own_openings if not is_undone(block)]
        return told[-1]

    def number_now(self):
        """The number of the edition by which it reads now."""
        moment = self.owner.now()
        return self.owner.road.reads(self.part_number(), self.opening_now(), moment.keeping_now, moment.present())[0]

    def read(self, key):
        """The worth of a key: Over, Waits, NoKey."""
        self.check_free()
        names = self.owner.house.sheet.names
        if key not in names:
            raise NoKey(key)
        number = self.number_now()
        worth = self.owner.now().installed[number][names.index(key)]
        self.own_reads.append((key, worth, number))
        return worth

    def take(self):
        """It reads by the present edition from now on, if its way lets it: Over, Waits."""
        self.check_free()
        opening = self.owner.road.taken(self.part_number(), self.opening_now(), self.owner.now().present())
        self.own_openings.append((self.owner.trying, opening))

    def ask(self, part):
        """The Reading of a part below: Over, Waits, NoPart."""
        self.check_free()
        road = self.owner.road
        if part not in road.part_names[self.part_number() + 1:]:
            raise NoPart(part)
        number = road.part_names.index(part)
        numbers = road.opened(number, (self.number_now(),), self.owner.now().present())
        self.last_asked = Reading(self.owner, self, (number, *numbers))
        return self.last_asked

    def close(self):
        """It is over, and all that it asked."""
        self.is_closed = True

    def __contains__(self, key):
        return key in [row[0] for row in self.own_reads]

    def __enter__(self):
        return self

    def __exit__(self, kind, value, trace):
        self.is_closed = True
