"""Works by plans, told once more: by whole histories with numbers of their own, standings by their definition.

Nothing here is taken from the package but Plan: the tests compare the package with what comes out here.
"""

import collections
import itertools

from plain_looking import all_behind, greatest, looked_through

MANNERS = ('begun', 'each', 'forward', 'one')
GONE = -99

# stack: rows of (part, number or None, number of the opening); reads: rows of (number of the opening, part, number).
Work = collections.namedtuple('Work', 'stack kept present reads opened begun')


def firsts_of(plan):
    """All firsts that a plan may have."""
    return itertools.product(range(-4, 1), repeat=plan.ways.count('kept'))


def number_now(plan, work, opening):
    """The edition by which an opening would read."""
    part, number, _ = opening
    way = plan.ways[part]
    if way == 'fresh':
        return work.present
    if way == 'kept':
        return dict(work.kept)[part]
    return number


def number_for(plan, work, part):
    """The edition that an opening of the part has, as it is opened now; None for none of its own."""
    way = plan.ways[part]
    if way == 'once' or (way == 'handed' and not work.stack):
        return work.present
    if way == 'handed':
        return number_now(plan, work, work.stack[-1])
    return None


def opened(plan, work, part):
    row = (part, number_for(plan, work, part), work.opened)
    return work._replace(stack=(*work.stack, row), opened=work.opened + 1)


def begun(plan, part, firsts):
    """The work as it begins."""
    kept = tuple(zip([at for at, way in enumerate(plan.ways) if way == 'kept'], firsts))
    return opened(plan, Work((), kept, 0, (), 0, 0), part)


def events_of(plan, work):
    """All events that can come."""
    rows = [('install',)]
    rows += [('renew', plan.parts[part]) for part, _ in work.kept if part not in [row[0] for row in work.stack]]
    if work.stack:
        part = work.stack[-1][0]
        rows += [('read',), ('back',)] + [('ask', name) for name in plan.parts[part + 1:]]
        if plan.takes[part]:
            rows.append(('take',))
    return rows


def came(plan, work, event):
    """The work behind an event that can come."""
    if event[0] == 'install':
        return work._replace(present=work.present + 1)
    if event[0] == 'renew':
        part = plan.parts.index(event[1])
        return work._replace(kept=tuple([(at, work.present if at == part else number) for at, number in work.kept]))
    part, number, opening = work.stack[-1]
    if event[0] == 'read':
        row = (opening, part, number_now(plan, work, work.stack[-1]))
        return work._replace(reads=(*work.reads, row))
    if event[0] == 'back':
        return work._replace(stack=work.stack[:-1])
    if event[0] == 'take':
        number = work.present if plan.ways[part] in ('once', 'handed') else None
        return work._replace(stack=(*work.stack[:-1], (part, number, opening)))
    return opened(plan, work, plan.parts.index(event[1]))


def is_broken(manner, work):
    """Whether the reads break the manner, told by all pairs of them."""
    pairs = list(itertools.combinations(work.reads, 2))
    if manner == 'one':
        return any([one[2] != other[2] for one, other in pairs])
    if manner == 'forward':
        return any([other[2] < one[2] for one, other in pairs])
    if manner == 'each':
        return any([one[0] == other[0] and one[2] != other[2] for one, other in pairs])
    return any([number != work.begun for _, _, number in work.reads])


def held_by(works):
    """The ascending numbers of the editions that one of these works holds."""
    held = {works[0].present}
    for work in works:
        held |= {number for _, number in work.kept} | {row[1] for row in work.stack if row[1] is not None}
    return sorted(held)


def place_in(held, number):
    if number is None:
        return -1
    return held.index(number) if number in held else -2


def standing_of(manner, work):
    held = held_by([work])
    rows = []
    for part, number, opening in work.stack:
        own = [row[2] for row in work.reads if row[0] == opening]
        told = place_in(held, own[-1]) if own and manner == 'each' else -1
        rows.append((part, place_in(held, number), told))
    kept = tuple([held.index(number) for _, number in work.kept])
    return tuple(rows), kept, len(held) - 1, mark_of(manner, work, held)


def mark_of(manner, work, held):
    numbers = [row[2] for row in work.reads]
    if manner == 'begun':
        return place_in(held, work.begun)
    if manner == 'forward':
        return len([number for number in held if numbers and number < max(numbers)])
    if manner == 'one' and numbers:
        return place_in(held, numbers[-1])
    return -1


def works_like(plan, manner, standing):
    """A work with a history by which it is at this standing, as far as events can tell."""
    openings, kept, present, mark = standing
    stack = []
    reads = []
    for at, (part, number, own) in enumerate(openings):
        stack.append((part, None if number == -1 else number, at))
        if own != -1:
            reads.append((at, part, GONE if own == -2 else own))
    if (manner == 'one' and mark != -1) or (manner == 'forward' and mark):
        reads.append((0, openings[0][0], GONE if mark == -2 else mark if manner == 'one' else mark - 0.5))
    begin = (GONE if mark == -2 else mark) if manner == 'begun' else 0
    parts = [at for at, way in enumerate(plan.ways) if way == 'kept']
    return Work(tuple(stack), tuple(zip(parts, kept)), present, tuple(reads), len(stack), begin)


def behind(plan, manner, work):
    """(whether a read may break the manner now, the standings and works that come)."""
    rows = []
    is_bad = False
    for event in events_of(plan, work):
        later = came(plan, work, event)
        if event == ('read',) and is_broken(manner, later):
            is_bad = True
        elif later.stack:
            rows.append((standing_of(manner, later), later))
    return is_bad, rows


def plain_search(plan, part, manner):
    """('always', set of standings), or ('breaks', how many events a shortest story has)."""
    number = plan.parts.index(part)
    works = [begun(plan, number, firsts) for firsts in firsts_of(plan)]
    row = {standing_of(manner, work): work for work in works}
    is_bad, found, many = looked_through(row, lambda work: behind(plan, manner, work))
    return ('breaks', many + 1) if is_bad else ('always', found)


def told_by(plan, firsts, story):
    """The works behind each event of a story that can come, None if it cannot."""
    if not story:
        return []
    works = [begun(plan, plan.parts.index(story[0][1]), firsts)]
    for event in story[1:]:
        if event not in events_of(plan, works[-1]):
            return None
        works.append(came(plan, works[-1], event))
    return works


# Two plans beside one another: two works, each by its own plan, go by the same events.

def kept_in_one(plan, other):
    return [at for at, ways in enumerate(zip(plan.ways, other.ways)) if 'kept' in ways]


def both_begun(plan, other, part, firsts):
    told = dict(zip(kept_in_one(plan, other), firsts))
    return tuple([
        begun(one, part, [told[at] for at, way in enumerate(one.ways) if way == 'kept']) for one in (plan, other)
    ])


def both_events(plan, other, works):
    rows = [event for event in events_of(plan, works[0]) if event[0] != 'renew']
    busy = [row[0] for row in works[0].stack]
    return rows + [('renew', plan.parts[at]) for at in kept_in_one(plan, other) if at not in busy]


def both_came(plan, other, works, event):
    rows = []
    for one, work in zip((plan, other), works):
        is_idle = event[0] == 'renew' and one.ways[one.parts.index(event[1])] != 'kept'
        rows.append(work if is_idle else came(one, work, event))
    return tuple(rows)


def both_standing(plan, other, works):
    held = held_by(works)
    openings = tuple([
        (mine[0], place_in(held, mine[1]), place_in(held, theirs[1])) for mine, theirs in zip(works[0].stack, works[1].stack)
    ])
    kept = {**dict(works[0].kept), **dict(works[1].kept)}
    return openings, tuple([held.index(kept[at]) for at in kept_in_one(plan, other)]), len(held) - 1


def are_apart(works):
    return works[0].reads != works[1].reads


def both_behind(plan, other, works):
    rows = []
    is_bad = False
    for event in both_events(plan, other, works):
        later = both_came(plan, other, works, event)
        if are_apart(later):
            is_bad = True
        elif later[0].stack:
            rows.append((both_standing(plan, other, later), later))
    return is_bad, rows


def both_starts(plan, other):
    row = {}
    for part in range(len(plan.parts)):
        for firsts in itertools.product(range(-4, 1), repeat=len(kept_in_one(plan, other))):
            works = both_begun(plan, other, part, firsts)
            row[both_standing(plan, other, works)] = works
    return row


def both_search(plan, other):
    """('alike', set of standings), or ('apart', how many events a shortest story has)."""
    is_bad, found, many = looked_through(both_starts(plan, other), lambda works: both_behind(plan, other, works))
    return ('apart', many + 1) if is_bad else ('alike', found)


def both_told(plan, other, firsts, story):
    """The pairs of works behind each event, None if one cannot come."""
    if not story:
        return []
    works = [both_begun(plan, other, plan.parts.index(story[0][1]), firsts)]
    for event in story[1:]:
        if event not in both_events(plan, other, works[-1]):
            return None
        works.append(both_came(plan, other, works[-1], event))
    return works


# Plans for the tests.

def plan_text(rows):
    """The text of parts with these (way, takes)."""
    return '\n'.join([f'part {name} {way}' + (' takes' if takes else '') for name, (way, takes) in zip('dcba', rows)])


ALL_ROWS = list(itertools.product(('fresh', 'once', 'handed', 'kept'), (False, True)))


def some_rows(source, many, count):
    """Some rows of parts, at random."""
    return [tuple([source.choice(ALL_ROWS) for _ in range(many)]) for _ in range(count)]


# Standings by their form, and the greatest closed table of them.

def all_chains(plan, first):
    """All rows of part numbers that may be open, this one ahead."""
    rest = range(first + 1, len(plan.parts))
    return [(first, *more) for many in range(len(rest) + 1) for more in itertools.combinations(rest, many)]


def all_forms(plan, part, manner):
    """All standings by their form."""
    rows = []
    for chain in all_chains(plan, plan.parts.index(part)):
        owning = [plan.ways[at] in ('once', 'handed') for at in chain]
        many = plan.ways.count('kept')
        for present in range(many + sum(owning) + 1):
            numbers = range(present + 1)
            for told in itertools.product(*[numbers if owns else (-1,) for owns in owning]):
                for kept in itertools.product(numbers, repeat=many):
                    if {*told, *kept, present} - {-1} == set(numbers):
                        rows.extend(forms_of(manner, chain, told, kept, present))
    return rows


def forms_of(manner, chain, told, kept, present):
    """The standings with any own and mark that can be."""
    numbers = list(range(present + 1))
    marks = {'one': [-1, -2, *numbers], 'begun': [-2, *numbers], 'forward': numbers, 'each': [-1]}[manner]
    owns = [-1, -2, *numbers] if manner == 'each' else [-1]
    rows = []
    for mine in itertools.product(owns, repeat=len(chain)):
        rows.extend([(tuple(zip(chain, told, mine)), kept, present, mark) for mark in marks])
    return rows


def standings_behind(plan, manner, standing):
    """(whether a read may break the manner now, the standings that come)."""
    is_bad, rows = behind(plan, manner, works_like(plan, manner, standing))
    return is_bad, [told for told, _ in rows]


def greatest_table(plan, part, manner):
    """The set of all standings by their form from which no break can come, and the set of the others."""
    return greatest({row: standings_behind(plan, manner, row) for row in all_forms(plan, part, manner)})


def closure_of(plan, manner, standings):
    """All that comes behind these standings, them too."""
    return all_behind(standings, lambda row: standings_behind(plan, manner, row)[1])


def all_stories(plan, firsts, many):
    """All stories of up to so many events, with the works behind each of them."""
    starts = [((('begin', part),), [begun(plan, at, firsts)]) for at, part in enumerate(plan.parts)]
    return longer_stories(starts, many, lambda work: [(event, came(plan, work, event)) for event in events_of(plan, work)])


def longer_stories(starts, many, come):
    """All stories of up to so many events; none goes on directly behind a back."""
    row = starts
    found = list(row)
    for _ in range(many - 1):
        row = [((*story, event), [*told, later]) for story, told in row if story[-1] != ('back',) for event, later in come(told[-1])]
        found += row
    return found


def both_forms(plan, other):
    """All standings of two plans by their form."""
    rows = []
    many = len(kept_in_one(plan, other))
    for chain in [chain for first in range(len(plan.parts)) for chain in all_chains(plan, first)]:
        owning = [one.ways[at] in ('once', 'handed') for at in chain for one in (plan, other)]
        for present in range(many + sum(owning) + 1):
            numbers = range(present + 1)
            for told in itertools.product(*[numbers if owns else (-1,) for owns in owning]):
                for kept in itertools.product(numbers, repeat=many):
                    if {*told, *kept, present} - {-1} == set(numbers):
                        rows.append((tuple(zip(chain, told[::2], told[1::2])), kept, present))
    return rows


def both_like(plan, other, standing):
    """Two works that are at this standing, as far as events can tell."""
    openings, kept, present = standing
    told = dict(zip(kept_in_one(plan, other), kept))
    works = []
    for at, one in enumerate((plan, other)):
        stack = [(row[0], None if row[1 + at] == -1 else row[1 + at], number) for number, row in enumerate(openings)]
        mine = tuple([(part, number) for part, number in told.items() if one.ways[part] == 'kept'])
        works.append(Work(tuple(stack), mine, present, (), len(stack), 0))
    return tuple(works)


def both_greatest(plan, other):
    """The set of all standings by their form from which both never part, and the set of the others."""
    moves = {}
    for row in both_forms(plan, other):
        is_bad, rows = both_behind(plan, other, both_like(plan, other, row))
        moves[row] = (is_bad, [told for told, _ in rows])
    return greatest(moves)


def both_stories(plan, other, firsts, many):
    """All stories of up to so many events, with the pairs of works behind each of them."""
    starts = [((('begin', part),), [both_begun(plan, other, at, firsts)]) for at, part in enumerate(plan.parts)]
    return longer_stories(starts, many, lambda works: [
        (event, both_came(plan, other, works, event)) for event in both_events(plan, other, works)
    ])
