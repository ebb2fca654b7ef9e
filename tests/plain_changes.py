"""Deeds amid works, told once more: single works by whole histories, rows of deeds one by one."""

import collections
import heapq

from plain_runs import begun, came, events_of

# What stands behind some deeds: kept has the number 0 or 1 for each kept part, present 0 or 1, shut the closed doors.
State = collections.namedtuple('State', 'present kept shut')


def first_state(home):
    return State(0, (0,) * len(home.kept_parts), frozenset())


def done(home, doors, state, deed):
    """The state behind a deed, None if it cannot be done."""
    names = [home.parts[part] for part in home.kept_parts]
    if deed == ('install',) and state.present == 0:
        return state._replace(present=1)
    if deed == ('wait',):
        return state
    if deed[0] == 'renew' and deed[1] in names and state.present == 1 and state.kept[names.index(deed[1])] == 0:
        return state._replace(kept=tuple([1 if name == deed[1] else number for name, number in zip(names, state.kept)]))
    if deed[0] == 'close' and deed[1] in doors and deed[1] not in state.shut:
        return state._replace(shut=state.shut | {deed[1]})
    if deed[0] == 'open' and deed[1] in state.shut:
        return state._replace(shut=state.shut - {deed[1]})
    return None


def all_deeds(home, doors):
    rows = [('install',), ('wait',)] + [('renew', home.parts[part]) for part in home.kept_parts]
    return rows + [(word, door) for door in doors for word in ('close', 'open')]


def states_of(home, doors, deeds):
    """The states ahead of all deeds and behind each."""
    states = [first_state(home)]
    for deed in deeds:
        states.append(done(home, doors, states[-1], deed))
    return states


def first_wrong(home, doors, deeds):
    """The number of the first deed that cannot be done, counted from 1; 0 if all can."""
    state = first_state(home)
    for number, deed in enumerate(deeds):
        state = done(home, doors, state, deed)
        if state is None:
            return number + 1
    return 0


def job_at(home, state, door, old, new):
    """A work that begins at a door."""
    return begun(home, home.parts.index(door), (old, new)[:1 + state.present], state.kept)


def with_deed(home, job, deed, new):
    """The work when a deed is done meanwhile, None if it cannot be while the work is there."""
    busy = [row[0] for row in job.stack]
    if deed == ('wait',):
        return None
    if deed == ('install',):
        return job._replace(editions=(*job.editions, new))
    if deed[0] == 'renew':
        return None if home.parts.index(deed[1]) in busy else came(home, job, deed)
    return job


def is_mixed(job, manner, old, new):
    """Whether the worths that were read are neither all such as old has, nor all such as new has."""
    for rows in reads_by(job, manner).values():
        if not all([old[key] == worth for key, worth in rows]) and not all([new[key] == worth for key, worth in rows]):
            return True
    return False


def reads_by(job, manner):
    rows = collections.defaultdict(set)
    for opening, _, key, worth, _ in job.reads:
        rows[opening if manner == 'each' else 'all'].add((key, worth))
    return rows


def key_of(number, job, manner):
    """What tells one work from another, for all that comes."""
    rows = reads_by(job, manner)
    if manner == 'one':
        told = frozenset(rows['all'])
    else:
        told = tuple([frozenset(rows[row[3]]) for row in job.stack])
    return number, tuple([row[:3] for row in job.stack]), job.kept, job.editions, told


def come_of(home, number, job, deeds, new):
    """The (event, number, job) that may come."""
    rows = [(event, number, came(home, job, event)) for event in events_of(home, job) if event[0] == 'step']
    if number < len(deeds) and job.stack:
        told = with_deed(home, job, deeds[number], new)
        if told is not None:
            rows.append((('deed',), number + 1, told))
    return rows


def starts_of(home, doors, old, new, states):
    """All (door, number, job) of works as they may begin."""
    rows = []
    for number, state in enumerate(states):
        for door in doors:
            if door not in state.shut:
                job = job_at(home, state, door, old, new)
                if job.stack:
                    rows.append((door, number, job))
    return rows


def fewest(home, doors, old, new, manner, deeds):
    """How many events a work with fewest events has that comes to a mix, None of a clean row."""
    row = {}
    for _, number, job in starts_of(home, doors, old, new, states_of(home, doors, deeds)):
        row[key_of(number, job, manner)] = (number, job)
    seen = set(row)
    many = 0
    while row:
        later = {}
        many += 1
        for number, job in row.values():
            for _, after, told in come_of(home, number, job, deeds, new):
                if is_mixed(told, manner, old, new):
                    return many
                key = key_of(after, told, manner)
                if told.stack and key not in seen:
                    later[key] = (after, told)
                    seen.add(key)
        row = later
    return None


def comes_to_mix(home, doors, old, new, manner, deeds, value):
    """Whether (part, number, events) tell a work that comes to a mix by its last event, and not ahead."""
    part, number, events = value
    found = [job for door, at, job in starts_of(home, doors, old, new, states_of(home, doors, deeds)) if (door, at) == (part, number)]
    if not found:
        return False
    job = found[0]
    mixed = []
    for event in events:
        come = [row for row in come_of(home, number, job, deeds, new) if row[0] == event]
        if not come or not job.stack:
            return False
        _, number, job = come[0]
        mixed.append(is_mixed(job, manner, old, new))
    return mixed == [False] * (len(events) - 1) + [True]


def ends_well(home, doors, old, new, deeds):
    """Whether new is present, all doors are open, and no work that begins then reads a worth that new has not."""
    state = states_of(home, doors, deeds)[-1]
    if state.shut or state.present == 0:
        return False
    row = [job for _, _, job in starts_of(home, doors, old, new, [state])]
    seen = set()
    while row:
        job = row.pop()
        if any([new[key] != worth for _, _, key, worth, _ in job.reads]):
            return False
        key = job.stack
        if tuple([part[:3] for part in key]) not in seen:
            seen.add(tuple([part[:3] for part in key]))
            row += [told for _, _, told in come_of(home, 0, job, (), new)]
    return True


def least_row(home, doors, old, new, manner, prices, most):
    """(price, deeds) of the first clean row that ends well, by trying rows one by one; None after so many."""
    renews, closes, wait = prices
    costs = {('wait',): wait, ('install',): 0}
    costs.update({('renew', home.parts[part]): price for part, price in zip(home.kept_parts, renews)})
    costs.update({('close', door): price for door, price in zip(doors, closes)})
    heap = [(0, 0, ())]
    for _ in range(most):
        price, many, deeds = heapq.heappop(heap)
        # Where a row is not clean, none that goes on from it is.
        if fewest(home, doors, old, new, manner, deeds) is not None:
            continue
        if ends_well(home, doors, old, new, deeds):
            return price, deeds
        state = states_of(home, doors, deeds)[-1]
        for deed in all_deeds(home, doors):
            if done(home, doors, state, deed) is not None:
                heapq.heappush(heap, (price + costs.get(deed, 0), many + 1, (*deeds, deed)))
    return None


def random_deeds(source, home, doors, many):
    """A row of deeds that can be done."""
    deeds = []
    for _ in range(many):
        state = states_of(home, doors, deeds)[-1]
        can = [deed for deed in all_deeds(home, doors) if done(home, doors, state, deed) is not None]
        better = [deed for deed in can if deed[0] in ('install', 'renew', 'open')]
        deeds.append(source.choice(better if better and source.random() < 0.5 else can))
    return tuple(deeds)
