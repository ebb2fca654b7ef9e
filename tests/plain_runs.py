"""Works of houses, told once more: by whole histories with whole editions, standings by their definition.

Nothing here is taken from the package but Sheet: programs are read as trees, and a place is found by climbing.
"""

import collections
import itertools

from settledreads.sheets import Sheet

MANNERS = ('begun', 'each', 'forward', 'lawful', 'one')
BLOCKS = ('if', 'else', 'choose', 'way', 'loop')

# stack: rows of (part, line, number or None, number of the opening); reads: rows of (opening, number, key, worth, kind).
Job = collections.namedtuple('Job', 'stack kept editions reads opened begun')


class Node:
    """A statement, an else or a way: where it stands, and what stands below it."""

    def __init__(self, line, words, above):
        self.line = line
        self.kind = words[0]
        self.words = words
        self.above = above
        self.below = []


class Home:
    """What a text of a house tells that can be read."""

    def __init__(self, text):
        self.text = text
        lines = text.split('\n')
        heads = [at for at, line in enumerate(lines) if line.startswith('part ')]
        self.sheet = Sheet('\n'.join(lines[:heads[0]]))
        self.names = list(self.sheet.names)
        self.parts = [lines[at].split(' ')[1] for at in heads]
        self.ways = [lines[at].split(' ')[2] for at in heads]
        self.kept_parts = [at for at, way in enumerate(self.ways) if way == 'kept']
        self.nodes = {}
        self.rows = []
        for number, at in enumerate(heads):
            behind = heads[number + 1] if number + 1 < len(heads) else len(lines)
            self.rows.append(self.tree(lines, at, behind))
        self.owner = {line: number for number, row in enumerate(self.rows) for line in self.lines_of(row)}
        self.if_keys = {self.names.index(node.words[1]) for node in self.nodes.values() if node.kind == 'if'}

    def tree(self, lines, head, behind):
        top = Node(head, ['part'], None)
        stack = [top]
        for at in range(head + 1, behind):
            blanks = len(lines[at]) - len(lines[at].lstrip(' '))
            stack = stack[:blanks // 2]
            node = Node(at, lines[at].strip(' ').split(' '), stack[-1])
            stack[-1].below.append(node)
            stack.append(node)
            self.nodes[at] = node
        return top

    def lines_of(self, node):
        rows = [node.line]
        for below in node.below:
            rows += self.lines_of(below)
        return rows

    def statement(self, node):
        """The line of a statement as a place, None where it is the end."""
        return None if node.kind == 'end' else node.line

    def start(self, part):
        return self.statement(self.rows[part].below[0])

    def inside(self, node):
        return self.statement(node.below[0])

    def behind(self, node):
        """The line of what comes behind a statement that is done; None if the part is over."""
        above = node.above
        rest = [other for other in above.below if other.line > node.line and other.kind not in ('else', 'way')]
        if rest and above.kind != 'choose':
            return self.statement(rest[0])
        while above.kind in ('way', 'else'):
            above = self.owning(above)
            return self.behind(above)
        if above.kind == 'part':
            return None
        return above.line if above.kind == 'loop' else self.behind(above)

    def owning(self, node):
        """The choose of a way, the if of an else."""
        if node.kind == 'way':
            return node.above
        return [other for other in node.above.below if other.line < node.line and other.kind == 'if'][-1]

    def otherwise(self, node):
        """The else of an if, None if it has none."""
        later = [other for other in node.above.below if other.line > node.line]
        return later[0] if later and later[0].kind == 'else' else None

    def part_asked(self, line):
        return self.parts.index(self.nodes[line].words[1]) if self.nodes[line].kind == 'ask' else None

    def places(self):
        """All lines that can be places."""
        return [line for line, node in self.nodes.items() if node.kind not in ('end', 'else', 'way')]


def number_now(home, job):
    """The edition by which the part that was opened last would read."""
    part, _, number, _ = job.stack[-1]
    if home.ways[part] == 'fresh':
        return len(job.editions) - 1
    if home.ways[part] == 'kept':
        return dict(job.kept)[part]
    return number


def opened(home, job, part):
    """The job when this part is opened; perhaps it is over at once."""
    number = None
    if home.ways[part] in ('once', 'handed'):
        number = len(job.editions) - 1
        if home.ways[part] == 'handed' and job.stack:
            number = number_now(home, job)
    told = job._replace(stack=(*job.stack, (part, 0, number, job.opened)), opened=job.opened + 1)
    return gone_to(home, told, home.start(part))


def gone_to(home, job, line):
    """The job when the part that was opened last is at this line, None if it is over."""
    part, _, number, opening = job.stack[-1]
    if line is not None:
        return job._replace(stack=(*job.stack[:-1], (part, line, number, opening)))
    if len(job.stack) == 1:
        return job._replace(stack=())
    asker = job.stack[-2]
    return gone_to(home, job._replace(stack=job.stack[:-1]), home.behind(home.nodes[asker[1]]))


def begun(home, part, editions, kept):
    job = Job((), tuple(zip(home.kept_parts, kept)), tuple(editions), (), 0, len(editions) - 1)
    return opened(home, job, part)


def events_of(home, job):
    """All events that can come."""
    rows = [('install', edition) for edition in home.sheet.editions]
    busy = [row[0] for row in job.stack]
    rows += [('renew', home.parts[part]) for part in home.kept_parts if part not in busy]
    if job.stack:
        node = home.nodes[job.stack[-1][1]]
        many = {'choose': len(node.below), 'loop': 2}.get(node.kind, 1)
        rows += [('step', n) for n in range(many)]
    return rows


def came(home, job, event):
    """The job behind an event that can come."""
    if event[0] == 'install':
        return job._replace(editions=(*job.editions, event[1]))
    if event[0] == 'renew':
        part = home.parts.index(event[1])
        present = len(job.editions) - 1
        return job._replace(kept=tuple([(at, present if at == part else number) for at, number in job.kept]))
    part, line, number, opening = job.stack[-1]
    node = home.nodes[line]
    if node.kind in ('read', 'if'):
        return read(home, job, node)
    if node.kind == 'ask':
        return opened(home, job, home.part_asked(line))
    if node.kind == 'take':
        number = len(job.editions) - 1 if home.ways[part] in ('once', 'handed') else None
        job = job._replace(stack=(*job.stack[:-1], (part, line, number, opening)))
    if node.kind == 'choose':
        return gone_to(home, job, home.inside(node.below[event[1]]))
    if node.kind == 'loop' and event[1] == 1:
        return gone_to(home, job, home.inside(node))
    return gone_to(home, job, home.behind(node))


def read(home, job, node):
    number = number_now(home, job)
    key = home.names.index(node.words[1])
    worth = job.editions[number][key]
    job = job._replace(reads=(*job.reads, (job.stack[-1][3], number, key, worth, node.kind)))
    if node.kind == 'read':
        return gone_to(home, job, home.behind(node))
    if worth == int(node.words[3]):
        return gone_to(home, job, home.inside(node))
    other = home.otherwise(node)
    return gone_to(home, job, home.inside(other) if other else home.behind(node))


def is_broken(home, manner, job):
    """Whether the reads break the manner."""
    pairs = list(itertools.combinations(job.reads, 2))
    if manner == 'lawful':
        return not any([all([edition[row[2]] == row[3] for row in job.reads]) for edition in home.sheet.editions])
    if manner == 'one':
        return any([one[1] != other[1] for one, other in pairs])
    if manner == 'forward':
        return any([other[1] < one[1] for one, other in pairs])
    if manner == 'each':
        return any([one[0] == other[0] and one[1] != other[1] for one, other in pairs])
    return any([row[1] != job.begun for row in job.reads])


def held_by(job):
    held = {len(job.editions) - 1} | {number for _, number in job.kept}
    return sorted(held | {row[2] for row in job.stack if row[2] is not None})


def place_in(held, number):
    if number is None:
        return -1
    return held.index(number) if number in held else -2


def standing_of(home, manner, job):
    held = held_by(job)
    rows = []
    for _, line, number, opening in job.stack:
        own = [row[1] for row in job.reads if row[0] == opening]
        told = place_in(held, own[-1]) if own and manner == 'each' else -1
        rows.append((line, place_in(held, number), told))
    known = tuple([known_of(home, manner, job, number) for number in held])
    kept = tuple([held.index(number) for _, number in job.kept])
    return tuple(rows), known, kept, mark_of(home, manner, job, held)


def known_of(home, manner, job, number):
    told = {row[2]: row[3] for row in job.reads if row[1] == number and (row[4] == 'if' or manner == 'lawful')}
    return tuple([told.get(at, -1) for at in range(len(home.names))])


def mark_of(home, manner, job, held):
    numbers = [row[1] for row in job.reads]
    if manner == 'lawful':
        told = {row[2]: row[3] for row in job.reads}
        return tuple([told.get(at, -1) for at in range(len(home.names))])
    if manner == 'begun':
        return place_in(held, job.begun)
    if manner == 'forward':
        return len([number for number in held if numbers and number < max(numbers)])
    if manner == 'one' and numbers:
        return place_in(held, numbers[-1])
    return -1


def all_starts(home, part):
    """All jobs as they may begin, with all editions that there may be."""
    rows = []
    many = len(home.kept_parts)
    for present in range(many + 1):
        for kept in itertools.product(range(present + 1), repeat=many):
            if set(range(present)) <= set(kept):
                for editions in itertools.product(home.sheet.editions, repeat=present + 1):
                    rows.append(begun(home, part, editions, kept))
    return rows


def key_of(home, manner, job):
    """What tells one job from another: the standing, and the worths of the editions that are held."""
    return standing_of(home, manner, job), tuple([job.editions[number] for number in held_by(job)])


def plain_search(home, part, manner, most=None):
    """(word, standings found, how many events a shortest run has, how many standings come by fewer).

    None if more than so many jobs are gone through.
    """
    row = {key_of(home, manner, job): job for job in all_starts(home, part) if job.stack}
    seen = set(row)
    found = {key[0] for key in row}
    many = 0
    while row:
        later = {}
        many += 1
        ahead = len(found)
        for job in row.values():
            for event in events_of(home, job):
                told = came(home, job, event)
                if is_broken(home, manner, told):
                    return 'breaks', found, many, ahead
                if told.stack:
                    key = key_of(home, manner, told)
                    if key not in seen:
                        later[key] = told
        seen |= set(later)
        if most is not None and len(seen) > most:
            return None
        found |= {key[0] for key in later}
        row = later
    return 'always', found, None, len(found)


def told_by(home, part, run):
    """The jobs ahead of all events and behind each of a run, None if one cannot come."""
    editions, kept, events = run
    jobs = [begun(home, home.parts.index(part), editions, kept)]
    for event in events:
        if event not in events_of(home, jobs[-1]):
            return None
        jobs.append(came(home, jobs[-1], event))
    return jobs


def all_runs(home, part, many):
    """All runs of up to so many events, with the jobs ahead of and behind each event, of few beginnings."""
    row = []
    kept = (0,) * len(home.kept_parts)
    for editions in itertools.product(home.sheet.editions, repeat=2 if kept else 1):
        row.append(((editions, kept, ()), [begun(home, part, editions, kept)]))
    found = list(row)
    for _ in range(many):
        later = []
        for (editions, kept, events), jobs in row:
            for event in events_of(home, jobs[-1]):
                later.append(((editions, kept, (*events, event)), [*jobs, came(home, jobs[-1], event)]))
        found += later
        row = later
    return found
