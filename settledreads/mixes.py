"""Works that go on while deeds are done: what they have read may be such as an elder edition has, and a newer one.

A standing is (openings, number of deeds that are done, *rest). A SIDES number tells of which of both
editions all reads may be: 1 of the elder one, 2 of the newer one, 3 of each, 0 of none: a mix.
"""

from settledreads.courses import open_parts
from settledreads.deeds import NEW, OLD, waits_for
from settledreads.fixed import Fixed
from settledreads.searches import search

BOTH_SIDES = 3
DEED = ("deed",)


class WholeMix:
    """Whether all that a work reads is of one edition."""

    def __init__(self, pair):
        self.pair = pair
        self.blank_tail = ()
        self.blank_rest = (BOTH_SIDES,)

    def judged(self, place, worth, tail, rest):
        """(tail, rest) behind a read, None at a mix."""
        sides = sides_left(self.pair, place, worth, rest[0])
        return (tail, (sides,)) if sides else None


class EachMix:
    """Whether all that each opening of a part reads by itself is of one edition."""

    def __init__(self, pair):
        self.pair = pair
        self.blank_tail = (BOTH_SIDES,)
        self.blank_rest = ()

    def judged(self, place, worth, tail, rest):
        """(tail, rest) behind a read, None at a mix."""
        sides = sides_left(self.pair, place, worth, tail[0])
        return ((sides,), rest) if sides else None


class NewAlone:
    """Whether a work reads such worths alone as the newer edition has."""

    def __init__(self, pair):
        self.pair = pair
        self.blank_tail = ()
        self.blank_rest = ()

    def judged(self, place, worth, tail, rest):
        """(tail, rest) behind a read, None if the newer edition has another worth."""
        return (tail, rest) if worth == self.pair[NEW][place] else None


def sides_left(pair, place, worth, sides):
    """What is left of a SIDES number behind a read."""
    own = (1 if worth == pair[OLD][place] else 0) + (2 if worth == pair[NEW][place] else 0)
    return sides & own


class RowWalk:
    """All works that begin at doors, ahead of, amid and behind a row of deeds."""

    def __init__(self, house, road, doors, judge, deeds, stages):
        self.home = house
        self.road = road
        self.judge = judge
        self.deed_row = deeds
        self.door_parts = [road.part_names.index(door) for door in doors]
        self.stage_row = stages
        self.fixed_row = [Fixed(house, road, judge.pair, stage.keeping_now, stage.present_now) for stage in stages]

    def starts(self):
        """All standings with which a work may begin, behind any number of the deeds."""
        rows = []
        for number in range(len(self.stage_row)):
            rows.extend(self.starts_behind(number))
        return rows

    def starts_behind(self, number):
        """The standings with which a work may begin behind so many of the deeds."""
        rows = []
        for part, is_open in zip(self.door_parts, self.stage_row[number].doors_open):
            openings = self.fixed_row[number].begun(part, self.judge.blank_tail)
            if is_open and openings:
                rows.append((openings, number, *self.judge.blank_rest))
        return rows

    def part_at(self, standing):
        """The number of the part with which the work of a standing began."""
        return self.home.program.owners[standing[0][0][0]]

    def moves(self, standing):
        """What comes behind each event."""
        openings, number, *rest = standing
        return self.steps(openings, number, rest) + self.deed_done(openings, number, rest)

    def deed_done(self, openings, number, rest):
        """What comes when the next deed is done, if it can be now."""
        if number == len(self.deed_row):
            return []
        if waits_for(self.road, self.deed_row[number], open_parts(self.home, openings)):
            return []
        return [(DEED, False, (openings, number + 1, *rest))]

    def steps(self, openings, number, rest):
        """What comes behind each step."""
        fixed = self.fixed_row[number]
        if not fixed.is_read(openings):
            others = fixed.others(openings, self.judge.blank_tail)
            return [(("step", choice), False, (come, number, *rest)) for choice, come in others]
        place, _, worth = fixed.read_next(openings)
        told = self.judge.judged(place, worth, openings[-1][1 + self.road.many:], rest)
        if told is None:
            return [(("step", 0), True, (openings, number, *rest))]
        return [(("step", 0), False, (fixed.behind(openings, worth, told[0]), number, *told[1]))]

    def settled(self, raw):
        """The standing as it is: no number changes."""
        return raw


def ends_new(house, road, doors, pair, stage):
    """Whether the newer edition is present at a stage, all doors are open, and works that begin then read it alone."""
    if stage.present_now != NEW or not all(list(stage.doors_open)):
        return False
    walk = RowWalk(house, road, doors, NewAlone(pair), (), [stage])
    return search(walk, walk.starts())[1] is None
