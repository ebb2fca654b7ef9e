"""Steps of works while all editions are known: none is installed, and no part is begun anew meanwhile."""

from settledreads.courses import behind_read
from settledreads.programs import READS


class Fixed:
    """What works of a house read, and where they go, by these editions: the one with the number present is present."""

    def __init__(self, house, road, installed, kept, present):
        self.program = house.program
        self.road = road
        self.installed = installed
        self.keeping_now = kept
        self.present_now = present

    def begun(self, part, tail):
        """The openings with which a work begins; () if it is over at once."""
        return self.program.opened((), part, self.road.begun(part, self.present_now), tail)

    def is_read(self, openings):
        """Whether the next step is a read."""
        return self.program.statements[openings[-1][0]][0] in READS

    def read_next(self, openings):
        """(place of the key, number of the edition, worth) of the read that is the next step."""
        last = openings[-1]
        place = self.program.statements[last[0]][1]
        number = self.road.reads(self.program.owners[last[0]], last, self.keeping_now, self.present_now)[0]
        return place, number, self.installed[number][place]

    def behind(self, openings, worth, tail):
        """The openings behind a read that gives this worth, with another tail of the part that reads."""
        last = openings[-1]
        line = behind_read(self.program.statements[last[0]], worth)
        return self.program.went_on((*openings[:-1], (*last[:1 + self.road.many], *tail)), line)

    def others(self, openings, tail):
        """(choice, openings) behind each choice of a step that is no read; tail is that of a part that is opened."""
        where = (openings, self.keeping_now, self.present_now)
        choices = range(len(self.program.statements[openings[-1][0]][-1]))
        return [(choice, self.program.stepped(self.road, where, choice, tail)) for choice in choices]
