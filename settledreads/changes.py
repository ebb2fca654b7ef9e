"""The search for the cheapest deeds by which a newer edition comes without a mix."""

from heapq import heappop, heappush

from settledreads.courses import open_parts
from settledreads.deeds import WAIT, all_deeds, behind_deed, first_stage, kept_names, waits_for
from settledreads.mixes import RowWalk, ends_new


class Changes:
    """All clean rows of deeds: works under way are told by the numbers that their standings have here.

    What may come behind a row of deeds hangs on its last stage alone, and on where works may be then.
    """

    def __init__(self, house, road, doors, judge):
        self.home = house
        self.road = road
        self.door_names = doors
        self.judge = judge
        self.numbers = {}
        self.told_standings = []
        self.told_moves = {}
        self.told_ends = {}

    def least(self, prices):
        """(price, deeds) of the clean row that ends well, of least price, then of fewest deeds, then the least one."""
        costs = self.costs(prices)
        stage = first_stage(self.road, self.door_names)
        rows = [(stage, self.all_behind(stage, []))]
        heap = [(0, 0, (), 0)]
        done = {}
        while True:
            price, many, deeds, at = heappop(heap)
            stage, standings = rows[at]
            key = (stage.told(), standings)
            if key in done:
                continue
            done[key] = True
            if self.is_end(stage):
                return price, deeds
            for deed, cost in costs:
                later = behind_deed(self.road, self.door_names, stage, deed)
                come = None if later is None else self.all_behind(later, self.left_by(deed, standings))
                if come is not None:
                    heappush(heap, (price + cost, many + 1, (*deeds, deed), len(rows)))
                    rows.append((later, come))

    def costs(self, prices):
        """(deed, price) of all deeds."""
        renews, closes, wait = prices
        told = {("renew", name): price for name, price in zip(kept_names(self.road), renews)}
        for door, price in zip(self.door_names, closes):
            told["close", door] = price
        told[WAIT] = wait
        return [(deed, told.get(deed, 0)) for deed in all_deeds(self.road, self.door_names)]

    def is_end(self, stage):
        """Whether a row ends well at this stage."""
        key = stage.told()
        if key not in self.told_ends:
            self.told_ends[key] = ends_new(self.home, self.road, self.door_names, self.judge.pair, stage)
        return self.told_ends[key]

    def left_by(self, deed, standings):
        """The standings at which a work may be as a deed is done."""
        if deed[0] not in ("renew", "wait"):
            return standings
        rows = [(at, open_parts(self.home, self.told_standings[at][0])) for at in standings]
        return [at for at, parts in rows if not waits_for(self.road, deed, parts)]

    def all_behind(self, stage, standings):
        """All standings that come from these, and of works that begin at this stage; None if one comes to a mix."""
        walk = RowWalk(self.home, self.road, self.door_names, self.judge, (), [stage])
        todo = [*standings, *[self.number_of(standing) for standing in walk.starts()]]
        found = {at: True for at in todo}
        while todo:
            come = self.moves_from(stage, walk, todo.pop())
            if come is None:
                return None
            for at in come:
                if at not in found:
                    found[at] = True
                    todo.append(at)
        return tuple(sorted(list(found)))

    def moves_from(self, stage, walk, at):
        """The standings that come by a step at this stage, None if this is a mix."""
        key = (stage.present_now, stage.keeping_now, at)
        if key not in self.told_moves:
            rows = walk.moves(self.told_standings[at])
            is_broken = True in [row[1] for row in rows]
            come = [self.number_of(row[2]) for row in rows if row[2][0] and not row[1]]
            self.told_moves[key] = None if is_broken else come
        return self.told_moves[key]

    def number_of(self, standing):
        """The number that a standing has here."""
        if standing not in self.numbers:
            self.numbers[standing] = len(self.told_standings)
            self.told_standings.append(standing)
        return self.numbers[standing]
