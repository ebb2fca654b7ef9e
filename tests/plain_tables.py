"""Standings of houses by their form, and what comes from each, told once more as section 8 says it.

This is for tables that are greater than what comes: no history leads to some of their members.
"""

import itertools

from plain_looking import all_behind, greatest, looked_through

GONE = 'gone'


class Spot:
    """A standing taken apart, so that it can be changed: numbers, or GONE, or None for none."""

    def __init__(self, manner, standing):
        openings, known, kept, mark = standing
        self.stack = [[line, None if number == -1 else number, taken_apart(own)] for line, number, own in openings]
        self.known = [list(row) for row in known]
        self.kept = list(kept)
        self.mark = list(mark) if manner == 'lawful' else mark if manner == 'forward' else taken_apart(mark)

    def put_together(self, manner):
        """The standing: numbers are counted anew, of the editions that are held."""
        held = sorted({row[1] for row in self.stack if row[1] is not None} | set(self.kept) | {len(self.known) - 1})
        places = {None: -1, **{number: at for at, number in enumerate(held)}}
        rows = [(line, places[number], places.get(own, -2)) for line, number, own in self.stack]
        mark = places.get(self.mark, -2) if manner in ('one', 'begun', 'each') else self.mark
        if manner == 'forward':
            mark = sum([number < self.mark for number in held])
        known = tuple([tuple(self.known[number]) for number in held])
        return tuple(rows), known, tuple([places[number] for number in self.kept]), tuple(mark) if manner == 'lawful' else mark


def taken_apart(number):
    return {-1: None, -2: GONE}.get(number, number)


def is_lawful(home, row):
    return any([all([worth in (-1, told) for worth, told in zip(row, edition)]) for edition in home.sheet.editions])


def moved(home, spot, line):
    """The part that was opened last goes on at this line, None if it is over; what is over goes away."""
    while line is None:
        spot.stack.pop()
        if not spot.stack:
            return
        line = home.behind(home.nodes[spot.stack[-1][0]])
    spot.stack[-1][0] = line


def number_now(home, spot):
    line, number, _ = spot.stack[-1]
    part = home.owner[line]
    if home.ways[part] == 'fresh':
        return len(spot.known) - 1
    if home.ways[part] == 'kept':
        return spot.kept[home.kept_parts.index(part)]
    return number


def behind(home, manner, standing):
    """(whether a read may break the manner now, the standings that come)."""
    rows = []
    spot = Spot(manner, standing)
    spot.known.append([-1] * len(home.names))
    rows.append(spot)
    busy = [home.owner[row[0]] for row in standing[0]]
    for at, part in enumerate(home.kept_parts):
        if part not in busy:
            spot = Spot(manner, standing)
            spot.kept[at] = len(spot.known) - 1
            rows.append(spot)
    node = home.nodes[standing[0][-1][0]]
    is_bad = False
    if node.kind in ('read', 'if'):
        told = reads(home, manner, standing, node)
        is_bad = None in told
        rows += [spot for spot in told if spot is not None]
    else:
        rows += steps(home, manner, standing, node)
    return is_bad, [spot.put_together(manner) for spot in rows if spot.stack]


def steps(home, manner, standing, node):
    spot = Spot(manner, standing)
    part = home.owner[node.line]
    if node.kind == 'ask':
        asked = home.part_asked(node.line)
        number = {'once': len(spot.known) - 1, 'handed': number_now(home, spot)}.get(home.ways[asked])
        spot.stack.append([0, number, None])
        moved(home, spot, home.start(asked))
        return [spot]
    if node.kind == 'choose':
        spots = [Spot(manner, standing) for _ in node.below]
        for one, way in zip(spots, node.below):
            moved(home, one, home.inside(way))
        return spots
    if node.kind == 'loop':
        other = Spot(manner, standing)
        moved(home, other, home.inside(node))
        moved(home, spot, home.behind(node))
        return [spot, other]
    if home.ways[part] in ('once', 'handed'):
        spot.stack[-1][1] = len(spot.known) - 1
    moved(home, spot, home.behind(node))
    return [spot]


def reads(home, manner, standing, node):
    """The spots behind a read, None for each that breaks the manner."""
    key = home.names.index(node.words[1])
    rows = []
    for worth in range(home.sheet.sizes[key]):
        spot = Spot(manner, standing)
        number = number_now(home, spot)
        row = spot.known[number]
        if row[key] not in (-1, worth):
            continue
        is_kept = node.kind == 'if' or manner == 'lawful'
        told = [worth if at == key else other for at, other in enumerate(row)]
        if not is_lawful(home, told):
            continue
        if is_kept:
            spot.known[number] = told
        rows.append(went(home, manner, spot, node, worth, number))
    return rows


def went(home, manner, spot, node, worth, number):
    if manner == 'lawful':
        key = home.names.index(node.words[1])
        is_other = spot.mark[key] not in (-1, worth)
        spot.mark[key] = worth
        if is_other or not is_lawful(home, spot.mark):
            return None
    if manner == 'each':
        if spot.stack[-1][2] not in (None, number):
            return None
        spot.stack[-1][2] = number
    if manner == 'one':
        if spot.mark not in (None, number):
            return None
        spot.mark = number
    if manner == 'begun' and spot.mark != number:
        return None
    if manner == 'forward':
        if number < spot.mark:
            return None
        spot.mark = number
    if node.kind == 'if' and worth == int(node.words[3]):
        moved(home, spot, home.inside(node))
    elif node.kind == 'if' and home.otherwise(node):
        moved(home, spot, home.inside(home.otherwise(node)))
    else:
        moved(home, spot, home.behind(node))
    return spot


def all_chains(home, part):
    """All rows of lines that may be the places of open parts, this part ahead."""
    rows = []
    for line in home.places():
        if home.owner[line] == part:
            rows.append((line,))
            asked = home.part_asked(line)
            if asked is not None:
                rows += [(line, *more) for more in all_chains(home, asked)]
    return rows


def all_knowns(home, manner):
    """All rows of what may be known of an edition."""
    keys = range(len(home.names)) if manner == 'lawful' else home.if_keys
    sizes = home.sheet.sizes
    rows = itertools.product(*[range(-1, size) if at in keys else (-1,) for at, size in enumerate(sizes)])
    return [row for row in rows if is_lawful(home, row)]


def all_forms(home, part, manner):
    """All standings by their form."""
    rows = []
    knowns = all_knowns(home, manner)
    for chain in all_chains(home, part):
        owning = [home.ways[home.owner[line]] in ('once', 'handed') for line in chain]
        many = len(home.kept_parts)
        for present in range(many + sum(owning) + 1):
            numbers = range(present + 1)
            for told in itertools.product(*[numbers if owns else (-1,) for owns in owning]):
                for kept in itertools.product(numbers, repeat=many):
                    if {*told, *kept, present} - {-1} == set(numbers):
                        for known in itertools.product(knowns, repeat=present + 1):
                            rows += forms_of(home, manner, chain, told, known, kept)
    return rows


def forms_of(home, manner, chain, told, known, kept):
    numbers = list(range(len(known)))
    marks = {'one': [-1, -2, *numbers], 'begun': [-2, *numbers], 'forward': numbers, 'each': [-1]}.get(manner)
    if manner == 'lawful':
        marks = all_knowns(home, manner)
    owns = [-1, -2, *numbers] if manner == 'each' else [-1]
    rows = []
    for mine in itertools.product(owns, repeat=len(chain)):
        rows += [(tuple(zip(chain, told, mine)), known, kept, mark) for mark in marks]
    return rows


def greatest_table(home, part, manner):
    """The set of all standings by their form from which no break can come, and the set of the others."""
    return greatest({row: behind(home, manner, row) for row in all_forms(home, part, manner)})


def closure_of(home, manner, standings):
    """All that comes behind these standings, them too."""
    return all_behind(standings, lambda row: behind(home, manner, row)[1])


def counted(home, manner, starts):
    """(word, how many standings come by fewer events than a shortest run has, how many events this one has)."""
    is_bad, found, many = looked_through({row: row for row in starts}, lambda row: twice(behind(home, manner, row)))
    return ('breaks', len(found), many) if is_bad else ('always', len(found), None)


def twice(told):
    """Standings that are their own works."""
    return told[0], [(row, row) for row in told[1]]
