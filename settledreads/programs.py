"""Places: where an open part of a house is, and where it goes from there.

A statement is kept as (kind, what, worth, roads): what is the place of a key in the sheet or the
number of the part that is asked; roads are the lines where it goes on: of an if when the worth is
read and when another one is; of a choose by the number of the way; of a loop behind it and into its
body; of others the one behind it. OVER stands where the part is over.
"""

from settledreads.statements import all_statements

OVER = -1
READS = ("read", "if")


class Program:
    """The statements of all parts, by their lines."""

    def __init__(self, parts):
        self.statements = {}
        self.owners = {}
        names = [row[1] for row in parts]
        for number, (_, _, _, rows) in enumerate(parts):
            self.link(rows, OVER, names)
            for row in all_statements(rows):
                self.owners[row[0]] = number
        self.firsts = tuple([rows[0][0] for _, _, _, rows in parts])
        self.entries = tuple([first_place(rows, OVER) for _, _, _, rows in parts])

    def link(self, rows, behind, names):
        """Keeps a row of statements, behind the last of which this line comes."""
        for at, (line, kind, what, worth, blocks) in enumerate(rows):
            follows = first_place(rows[at + 1:], behind)
            inner = line if kind == "loop" else follows
            targets = [first_place(block, inner) for block in blocks]
            if kind != "end":
                number = names.index(what) if kind == "ask" else what
                self.statements[line] = (kind, number, worth, roads_of(kind, follows, targets))
            for block in blocks:
                self.link(block, inner, names)

    def went_on(self, openings, line):
        """The openings when the last one goes on at this line: an asker goes on when what it asked is over."""
        while line == OVER:
            openings = openings[:-1]
            if not openings:
                return ()
            line = self.statements[openings[-1][0]][-1][0]
        last = openings[-1]
        return (*openings[:-1], (line, *last[1:]))

    def stepped(self, road, where, choice, tail):
        """The openings behind a statement that is no read, None if this is no choice of it."""
        openings, kept, present = where
        last = openings[-1]
        kind, what, _, roads = self.statements[last[0]]
        part = self.owners[last[0]]
        if not 0 <= choice < len(roads):
            return None
        if kind == "ask":
            return self.opened(openings, what, road.opened(what, road.reads(part, last, kept, present), present), tail)
        if kind == "take":
            openings = (*openings[:-1], road.taken(part, last, present))
        return self.went_on(openings, roads[choice])

    def opened(self, openings, part, numbers, tail):
        """The openings when a part is opened behind them."""
        line = self.entries[part]
        return self.went_on((*openings, (line, *numbers, *tail)), line)


def first_place(rows, behind):
    """Where a row of statements begins: at the line behind if it is empty."""
    if not rows:
        return behind
    return OVER if rows[0][1] == "end" else rows[0][0]


def roads_of(kind, follows, targets):
    """The lines where a statement goes on."""
    if kind in ("if", "choose"):
        return tuple(targets)
    return (follows, *targets)
