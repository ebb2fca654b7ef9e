"""What a keeper has at one moment. A moment is never changed: each order gives another one."""

from settledreads.courses import begun_work, open_parts, stepped_work


class Moment:
    """The present View, the worths of all editions, what the kept parts keep, all works, and the manner of all."""

    def __init__(self, view, installed, kept, going, aim):
        self.present_view = view
        self.installed = installed
        self.keeping_now = kept
        self.going = going
        self.aim = aim

    def present(self):
        """The number of the present edition."""
        return len(self.installed) - 1

    def with_view(self, view):
        """The moment when this edition was installed."""
        return Moment(view, (*self.installed, view.worths), self.keeping_now, self.going, self.aim)

    def with_renewed(self, road, part):
        """The moment when a kept part was begun anew."""
        kept = road.renewed(self.keeping_now, part, self.present())
        return Moment(self.present_view, self.installed, kept, self.going, self.aim)

    def with_begun(self, work):
        """The moment when a work has begun."""
        return Moment(self.present_view, self.installed, self.keeping_now, (*self.going, work), self.aim)

    def with_work(self, number, work):
        """The moment when a work has gone on."""
        going = (*self.going[:number], work, *self.going[number + 1:])
        return Moment(self.present_view, self.installed, self.keeping_now, going, self.aim)

    def with_manner(self, manner):
        """The moment when all works keep another manner."""
        return Moment(self.present_view, self.installed, self.keeping_now, self.going, manner)

    def beginning(self, house, road, part):
        """A work of a part as it would begin now."""
        return begun_work(house, road, part, self.present())

    def stepped(self, house, road, number, choice):
        """A work behind its next step, None if this one cannot come."""
        return stepped_work(house, road, self.going[number], self.installed, self.keeping_now, choice)

    def has_open(self, house, part):
        """Whether a work that is not over has a part open."""
        return any([part in open_parts(house, work.openings) for work in self.going])
