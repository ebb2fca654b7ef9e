"""Works by editions that are all known, told once more: whole histories of steps, and standings by their form."""

import itertools

from plain_looking import all_behind, greatest
from plain_runs import begun, came, events_of
from plain_runs import is_broken as breaks_manner
from plain_tables import all_chains, all_knowns, is_lawful

MANNERS = ('begun', 'each', 'forward', 'lawful', 'one', 'present')


def all_sets(home, prices):
    """(price, set) of all sets of kept parts, in their sequence."""
    told = dict(zip([home.parts[part] for part in home.kept_parts], prices))
    rows = []
    for many in range(len(told) + 1):
        for names in itertools.combinations(sorted(told), many):
            rows.append((sum([told[name] for name in names]), many, names))
    return [(price, names) for price, _, names in sorted(rows)]


def kept_with(home, editions, kept, names):
    """What the kept parts keep when these were begun anew."""
    rows = zip(home.kept_parts, kept)
    return tuple([len(editions) - 1 if home.parts[part] in names else number for part, number in rows])


def is_broken(home, manner, job):
    if manner == 'present':
        return any([worth != job.editions[-1][key] for _, _, key, worth, _ in job.reads])
    return breaks_manner(home, manner, job)


def standing_of(home, manner, job):
    rows = []
    for _, line, number, opening in job.stack:
        own = [row[1] for row in job.reads if row[0] == opening]
        rows.append((line, -1 if number is None else number, own[-1] if own and manner == 'each' else -1))
    return tuple(rows), mark_of(home, manner, job)


def mark_of(home, manner, job):
    numbers = [row[1] for row in job.reads]
    if manner == 'lawful':
        told = {row[2]: row[3] for row in job.reads}
        return tuple([told.get(at, -1) for at in range(len(home.names))])
    if manner == 'begun':
        return job.begun
    if manner == 'forward':
        return max(numbers, default=0)
    return numbers[-1] if manner == 'one' and numbers else -1


def steps_of(home, job):
    return [event for event in events_of(home, job) if event[0] == 'step']


def plain_search(home, part, manner, editions, kept):
    """(None, how many steps are fewest), or (table, None)."""
    job = begun(home, part, editions, kept)
    row = {standing_of(home, manner, job): job} if job.stack else {}
    found = dict(row)
    many = 0
    while row:
        later = {}
        many += 1
        for job in row.values():
            for event in steps_of(home, job):
                told = came(home, job, event)
                if is_broken(home, manner, told):
                    return None, many
                key = standing_of(home, manner, told)
                if told.stack and key not in found:
                    later[key] = told
                    found[key] = told
        row = later
    return tuple(sorted(found)), None


def plain_anew(home, parts, editions, kept, manner, prices):
    """(price, set, tables, rows of (set, part, how many steps are fewest))."""
    reasons = []
    for price, names in all_sets(home, prices):
        tables = []
        for part in parts:
            table, many = plain_search(home, home.parts.index(part), manner, editions, kept_with(home, editions, kept, names))
            if table is None:
                reasons.append((names, part, many))
                break
            tables.append(table)
        else:
            return price, names, tuple(tables), reasons
    raise AssertionError('no set keeps the manner')


def breaks_at_last(home, part, manner, editions, kept, steps):
    """Whether these steps can come, and break the manner by the last one, and not ahead."""
    job = begun(home, home.parts.index(part), editions, kept)
    told = []
    for step in steps:
        if ('step', step) not in steps_of(home, job):
            return False
        job = came(home, job, ('step', step))
        told.append(is_broken(home, manner, job))
    return told == [False] * (len(steps) - 1) + [True]


# Standings by their form, and what comes from each.

def number_now(home, openings, editions, kept):
    line, number, _ = openings[-1]
    part = home.owner[line]
    if home.ways[part] == 'fresh':
        return len(editions) - 1
    if home.ways[part] == 'kept':
        return dict(zip(home.kept_parts, kept))[part]
    return number


def went(home, openings, line):
    """The openings when the part that was opened last goes on at this line, None if it is over."""
    openings = list(openings)
    while line is None:
        openings.pop()
        if not openings:
            return ()
        line = home.behind(home.nodes[openings[-1][0]])
    return (*openings[:-1], (line, *openings[-1][1:]))


def behind(home, manner, editions, kept, standing):
    """(whether a read breaks the manner now, the standings that come)."""
    openings, mark = standing
    node = home.nodes[openings[-1][0]]
    present = len(editions) - 1
    if node.kind in ('read', 'if'):
        return read(home, manner, editions, kept, standing, node)
    if node.kind == 'ask':
        asked = home.part_asked(node.line)
        number = {'once': present, 'handed': number_now(home, openings, editions, kept)}.get(home.ways[asked], -1)
        rows = [went(home, (*openings, (0, number, -1)), home.start(asked))]
    elif node.kind == 'choose':
        rows = [went(home, openings, home.inside(way)) for way in node.below]
    elif node.kind == 'loop':
        rows = [went(home, openings, home.behind(node)), went(home, openings, home.inside(node))]
    else:
        number = present if home.ways[home.owner[node.line]] in ('once', 'handed') else -1
        rows = [went(home, (*openings[:-1], (node.line, number, openings[-1][2])), home.behind(node))]
    return False, [(row, mark) for row in rows if row]


def read(home, manner, editions, kept, standing, node):
    openings, mark = standing
    line, held, own = openings[-1]
    number = number_now(home, openings, editions, kept)
    key = home.names.index(node.words[1])
    worth = editions[number][key]
    told = [worth if at == key else other for at, other in enumerate(mark)] if manner == 'lawful' else []
    is_bad = {
        'one': mark not in (-1, number), 'begun': mark != number, 'forward': manner == 'forward' and number < mark, 'each': own not in (-1, number),
        'present': worth != editions[-1][key], 'lawful': manner == 'lawful' and (mark[key] not in (-1, worth) or not is_lawful(home, told)),
    }[manner]
    if is_bad:
        return True, []
    mark = {'one': number, 'forward': number, 'lawful': tuple(told)}.get(manner, mark)
    openings = (*openings[:-1], (line, held, number if manner == 'each' else own))
    if node.kind == 'if' and worth == int(node.words[3]):
        come = home.inside(node)
    elif node.kind == 'if' and home.otherwise(node):
        come = home.inside(home.otherwise(node))
    else:
        come = home.behind(node)
    row = went(home, openings, come)
    return False, [(row, mark)] if row else []


def all_forms(home, part, manner, editions):
    """All standings by their form."""
    numbers = list(range(len(editions)))
    marks = {'one': [-1, *numbers], 'begun': numbers, 'forward': numbers}.get(manner, [-1])
    if manner == 'lawful':
        marks = all_knowns(home, manner)
    owns = [-1, *numbers] if manner == 'each' else [-1]
    rows = []
    for chain in all_chains(home, part):
        owning = [home.ways[home.owner[line]] in ('once', 'handed') for line in chain]
        for told in itertools.product(*[numbers if owns_one else (-1,) for owns_one in owning]):
            for mine in itertools.product(owns, repeat=len(chain)):
                rows += [(tuple(zip(chain, told, mine)), mark) for mark in marks]
    return rows


def greatest_table(home, part, manner, editions, kept):
    """The set of all standings by their form from which no break can come, and the set of the others."""
    return greatest({row: behind(home, manner, editions, kept, row) for row in all_forms(home, part, manner, editions)})


def closure_of(home, manner, editions, kept, standings):
    return all_behind(standings, lambda row: behind(home, manner, editions, kept, row)[1])
