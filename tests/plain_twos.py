"""Works by two ways of reading beside one another, told once more: two whole histories, each by its own ways."""

import itertools

from plain_looking import all_behind, greatest
from plain_runs import Home, begun, came, events_of, held_by, place_in
from plain_tables import all_chains, is_lawful


def text_with(text, ways):
    """The text of the house with other ways."""
    lines = text.split('\n')
    left = list(ways)
    for at, line in enumerate(lines):
        if line.startswith('part '):
            lines[at] = ' '.join([*line.split(' ')[:2], left.pop(0)])
    return '\n'.join(lines)


def homes_of(text, ways):
    """The house, and the one with other ways: in both, kept parts are those that are kept in one of both."""
    homes = (Home(text), Home(text_with(text, ways)))
    kept = sorted({*homes[0].kept_parts, *homes[1].kept_parts})
    for home in homes:
        home.kept_parts = kept
    return homes


def all_starts(homes, part):
    """All pairs of jobs as they may begin, with all editions that there may be."""
    rows = []
    many = len(homes[0].kept_parts)
    for present in range(many + 1):
        for kept in itertools.product(range(present + 1), repeat=many):
            if set(range(present)) <= set(kept):
                for editions in itertools.product(homes[0].sheet.editions, repeat=present + 1):
                    rows.append(both_begun(homes, part, editions, kept))
    return rows


def both_begun(homes, part, editions, kept):
    return tuple([begun(home, part, editions, kept) for home in homes])


def both_came(homes, jobs, event):
    return tuple([came(home, job, event) for home, job in zip(homes, jobs)])


def are_apart(jobs):
    """Whether both have read unlike worths."""
    return [row[3] for row in jobs[0].reads] != [row[3] for row in jobs[1].reads]


def all_held(jobs):
    return sorted({*held_by(jobs[0]), *held_by(jobs[1])})


def standing_of(homes, jobs):
    held = all_held(jobs)
    rows = []
    for one, other in zip(jobs[0].stack, jobs[1].stack):
        assert one[:2] == other[:2]
        rows.append((one[1], place_in(held, one[2]), place_in(held, other[2])))
    reads = jobs[0].reads + jobs[1].reads
    known = []
    for number in held:
        told = {row[2]: row[3] for row in reads if row[1] == number}
        known.append(tuple([told.get(at, -1) for at in range(len(homes[0].names))]))
    return tuple(rows), tuple(known), tuple([held.index(number) for _, number in jobs[0].kept])


def key_of(homes, jobs):
    return standing_of(homes, jobs), tuple([jobs[0].editions[number] for number in all_held(jobs)])


def plain_search(homes, part, most=None):
    """(word, standings found, how many events a shortest run has, how many standings come by fewer).

    None if more than so many pairs of jobs are gone through.
    """
    if most is not None and len(homes[0].sheet.editions) ** (1 + len(homes[0].kept_parts)) > most:
        return None
    row = {key_of(homes, jobs): jobs for jobs in all_starts(homes, part) if jobs[0].stack}
    seen = set(row)
    found = {key[0] for key in row}
    many = 0
    while row:
        later = {}
        many += 1
        ahead = len(found)
        for jobs in row.values():
            for event in events_of(homes[0], jobs[0]):
                told = both_came(homes, jobs, event)
                if are_apart(told):
                    return 'apart', found, many, ahead
                if told[0].stack and key_of(homes, told) not in seen:
                    later[key_of(homes, told)] = told
        seen |= set(later)
        if most is not None and len(seen) > most:
            return None
        found |= {key[0] for key in later}
        row = later
    return 'alike', found, None, len(found)


def told_by(homes, part, run):
    """The pairs of jobs ahead of all events and behind each of a run, None if one cannot come."""
    editions, kept, events = run
    rows = [both_begun(homes, homes[0].parts.index(part), editions, kept)]
    for event in events:
        if event not in events_of(homes[0], rows[-1][0]):
            return None
        rows.append(both_came(homes, rows[-1], event))
    return rows


def is_parting(homes, part, run):
    """Whether a run can come, and both part by its last event, and by none ahead."""
    rows = told_by(homes, part, run)
    return rows is not None and [are_apart(jobs) for jobs in rows] == [False] * (len(rows) - 1) + [True]


def all_runs(homes, part, many):
    """All runs of up to so many events, and whether each parts by its last event, and by none ahead."""
    row = []
    kept = (0,) * len(homes[0].kept_parts)
    for editions in itertools.product(homes[0].sheet.editions, repeat=2 if kept else 1):
        row.append(((editions, kept, ()), both_begun(homes, part, editions, kept), False))
    found = []
    for _ in range(many):
        later = []
        for (editions, kept, events), jobs, was_apart in row:
            for event in events_of(homes[0], jobs[0]):
                told = both_came(homes, jobs, event) if not was_apart else jobs
                run = (editions, kept, (*events, event))
                found.append((run, are_apart(told) and not was_apart))
                later.append((run, told, are_apart(told)))
        row = later
    return found


# Standings by their form, and what comes from each, as sections 8 and 9 say it.

def put_together(stack, known, kept):
    """The standing: numbers are counted anew, of the editions that are held."""
    held = sorted({number for row in stack for number in row[1:] if number != -1} | {*kept, len(known) - 1})
    places = {-1: -1, **{number: at for at, number in enumerate(held)}}
    rows = tuple([(row[0], places[row[1]], places[row[2]]) for row in stack])
    return rows, tuple([tuple(known[number]) for number in held]), tuple([places[number] for number in kept])


def numbers_now(homes, standing):
    """The editions by which the part that was opened last would read, by both."""
    openings, known, kept = standing
    line, *numbers = openings[-1]
    part = homes[0].owner[line]
    told = []
    for home, number in zip(homes, numbers):
        way = home.ways[part]
        told.append({'fresh': len(known) - 1, 'kept': dict(zip(home.kept_parts, kept)).get(part)}.get(way, number))
    return told


def went(home, stack, line):
    """The stack when the part that was opened last goes on at this line, None if it is over."""
    stack = list(stack)
    while line is None:
        stack.pop()
        if not stack:
            return []
        line = home.behind(home.nodes[stack[-1][0]])
    return [*stack[:-1], (line, *stack[-1][1:])]


def behind(homes, standing):
    """(whether both may read unlike worths now, the standings that come)."""
    home = homes[0]
    openings, known, kept = standing
    blank = (-1,) * len(home.names)
    rows = [put_together(openings, [*known, blank], kept)]
    busy = [home.owner[row[0]] for row in openings]
    for at, part in enumerate(home.kept_parts):
        if part not in busy:
            rows.append(put_together(openings, known, (*kept[:at], len(known) - 1, *kept[at + 1:])))
    node = home.nodes[openings[-1][0]]
    if node.kind in ('read', 'if'):
        is_bad, told = read(homes, standing, node)
        return is_bad, rows + told
    stacks = [row for row in others(homes, standing, node) if row]
    return False, rows + [put_together(row, known, kept) for row in stacks]


def others(homes, standing, node):
    """The stacks behind each choice of a statement that is no read."""
    home = homes[0]
    openings, known, _ = standing
    present = len(known) - 1
    if node.kind == 'ask':
        asked = home.part_asked(node.line)
        handed = numbers_now(homes, standing)
        numbers = [
            {'once': present, 'handed': number}.get(one.ways[asked], -1) for one, number in zip(homes, handed)
        ]
        return [went(home, [*openings, (0, *numbers)], home.start(asked))]
    if node.kind == 'choose':
        return [went(home, openings, home.inside(way)) for way in node.below]
    if node.kind == 'loop':
        return [went(home, openings, home.behind(node)), went(home, openings, home.inside(node))]
    part = home.owner[node.line]
    numbers = [present if one.ways[part] in ('once', 'handed') else -1 for one in homes]
    return [went(home, [*openings[:-1], (node.line, *numbers)], home.behind(node))]


def worths_of(home, row, key):
    """The worths that a key may have where this is known."""
    rows = [(worth, [worth if at == key else told for at, told in enumerate(row)]) for worth in range(home.sheet.sizes[key])]
    return [worth for worth, told in rows if row[key] in (-1, worth) and is_lawful(home, told)]


def read(homes, standing, node):
    """(whether both may read unlike worths, what comes otherwise)."""
    home = homes[0]
    openings, known, kept = standing
    key = home.names.index(node.words[1])
    numbers = numbers_now(homes, standing)
    sides = [worths_of(home, known[number], key) for number in numbers]
    if numbers[0] != numbers[1] and not (len(sides[0]) == 1 and sides[0] == sides[1]):
        return True, []
    rows = []
    for worth in sides[0]:
        told = [list(row) for row in known]
        for number in numbers:
            told[number][key] = worth
        stack = went(home, openings, line_behind(home, node, worth))
        if stack:
            rows.append(put_together(stack, told, kept))
    return False, rows


def line_behind(home, node, worth):
    if node.kind == 'if' and worth == int(node.words[3]):
        return home.inside(node)
    if node.kind == 'if' and home.otherwise(node):
        return home.inside(home.otherwise(node))
    return home.behind(node)


def all_forms(homes, part):
    """All standings by their form."""
    rows = []
    home = homes[0]
    sizes = home.sheet.sizes
    knowns = [row for row in itertools.product(*[range(-1, size) for size in sizes]) if is_lawful(home, row)]
    many = len(home.kept_parts)
    for chain in all_chains(home, part):
        owning = [one.ways[home.owner[line]] in ('once', 'handed') for line in chain for one in homes]
        for present in range(many + sum(owning) + 1):
            numbers = range(present + 1)
            for told in itertools.product(*[numbers if owns else (-1,) for owns in owning]):
                for kept in itertools.product(numbers, repeat=many):
                    if {*told, *kept, present} - {-1} == set(numbers):
                        openings = tuple([(line, *told[2 * at:2 * at + 2]) for at, line in enumerate(chain)])
                        rows += [(openings, known, kept) for known in itertools.product(knowns, repeat=present + 1)]
    return rows


def greatest_table(homes, part):
    """The set of all standings by their form from which no parting can come, and the set of the others."""
    return greatest({row: behind(homes, row) for row in all_forms(homes, part)})


def closure_of(homes, standings):
    """All that comes behind these standings, them too."""
    return all_behind(standings, lambda row: behind(homes, row)[1])
