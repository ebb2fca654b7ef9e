"""Keepers, told once more: works by whole histories, what was ahead kept whole for taking back, risks by plain search."""

import copy

from plain_runs import begun, came, events_of, held_by, is_broken, standing_of


class PlainKeeper:
    """What a keeper has, all of it copied ahead of each order."""

    def __init__(self, home, edition, manner=None):
        self.home = home
        self.manner = manner
        self.editions = (edition,)
        self.kept = tuple([(part, 0) for part in home.kept_parts])
        self.jobs = []
        self.orders = []
        self.ahead = []
        self.taken_back = []

    def all_now(self):
        return copy.deepcopy((self.manner, self.editions, self.kept, self.jobs, self.orders))

    def go_to(self, told):
        self.manner, self.editions, self.kept, self.jobs, self.orders = copy.deepcopy(told)

    def job(self, number):
        """A work with all editions, and what the kept parts keep now."""
        return self.jobs[number]._replace(editions=self.editions, kept=self.kept)

    def fresh_job(self, part):
        kept = tuple([number for _, number in self.kept])
        return begun(self.home, self.home.parts.index(part), self.editions, kept)

    def do(self, order):
        """Does an order that can be done."""
        self.ahead.append(self.all_now())
        self.taken_back = []
        word, *rest = order
        if word == 'install':
            self.editions = (*self.editions, rest[0])
        elif word == 'renew':
            part = self.home.parts.index(rest[0])
            self.kept = tuple([(at, len(self.editions) - 1 if at == part else number) for at, number in self.kept])
        elif word == 'begin':
            self.jobs.append(self.fresh_job(rest[0]))
        elif word == 'step':
            self.jobs[rest[0]] = came(self.home, self.job(rest[0]), ('step', rest[1]))
        else:
            self.manner = rest[0]
        self.orders.append(tuple(order))

    def undo(self):
        self.taken_back.append(self.all_now())
        self.go_to(self.ahead.pop())

    def redo(self):
        self.ahead.append(self.all_now())
        self.go_to(self.taken_back.pop())

    def can(self, order):
        """Whether an order can be done, where no manner is kept and no reading is open."""
        word, *rest = order
        if word == 'renew':
            part = self.home.parts.index(rest[0])
            return part in self.home.kept_parts and part not in [row[0] for job in self.jobs for row in job.stack]
        if word == 'step':
            return rest[0] < len(self.jobs) and ('step', rest[1]) in events_of(self.home, self.job(rest[0]))
        return True

    def reads(self, number):
        return tuple([(self.home.names[key], worth, edition) for _, edition, key, worth, _ in self.jobs[number].reads])

    def places(self, number):
        return tuple([row[1] for row in self.jobs[number].stack])


def risk_standing(home, manner, job, many):
    """The standing of a work; of the editions with numbers below many all is known."""
    openings, known, kept, mark = standing_of(home, manner, job)
    rows = [job.editions[number] if number < many else row for number, row in zip(held_by(job), known)]
    return openings, tuple(rows), kept, mark


def plain_risk(home, manner, job, most=None):
    """('safe', the set of standings that come, None, how many), or ('risky', .., how many events are fewest, how many come by fewer).

    None if it goes on too long.
    """
    if is_broken(home, manner, job):
        return 'risky', set(), 0, 0
    if not job.stack:
        return 'safe', set(), None, 0
    many_now = len(job.editions)

    def key_of(told):
        return risk_standing(home, manner, told, many_now), tuple([told.editions[number] for number in held_by(told)])

    row = {key_of(job): job}
    seen = set(row)
    found = {key[0] for key in row}
    many = 0
    while row:
        later = {}
        many += 1
        ahead = len(found)
        for one in row.values():
            for event in events_of(home, one):
                told = came(home, one, event)
                if is_broken(home, manner, told):
                    return 'risky', found, many, ahead
                if told.stack and key_of(told) not in seen:
                    later[key_of(told)] = told
        seen |= set(later)
        if most is not None and len(seen) > most:
            return None
        found |= {key[0] for key in later}
        row = later
    return 'safe', found, None, len(found)


def breaks_at_last(home, manner, job, events):
    """Whether these events can come, and break the manner by the last one, and not ahead."""
    if is_broken(home, manner, job):
        return False
    told = []
    for event in events:
        if event not in events_of(home, job):
            return False
        job = came(home, job, event)
        told.append(is_broken(home, manner, job))
    return told == [False] * (len(events) - 1) + [True]


def random_order(source, plain):
    """An order that may be one, mostly such as can be done."""
    home = plain.home
    rows = [('install', source.choice(home.sheet.editions)), ('begin', source.choice(home.parts))]
    rows += [('renew', source.choice(home.parts))]
    for number, job in enumerate(plain.jobs):
        steps = [event for event in events_of(home, plain.job(number)) if event[0] == 'step']
        rows += [('step', number, event[1]) for event in steps] * 2
    return source.choice(rows)


def random_history(source, plain, many):
    """Orders that are done one by one, of which some cannot be."""
    for _ in range(many):
        order = random_order(source, plain)
        yield order, plain.can(order)
        if plain.can(order):
            plain.do(order)
