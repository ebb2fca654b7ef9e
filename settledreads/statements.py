"""The programs of a house's parts, as they are read from lines.

A statement is read as (line, kind, what, worth, blocks): what is the place of a key in the sheet, or
the name of a part that is asked; blocks are rows of statements: what is done and what else of an if,
the ways of a choose, the body of a loop.
"""

from settledreads.errors import BadText
from settledreads.plans import MOST_PARTS, WAYS
from settledreads.texts import is_name, number_of, words_of

INDENT = "  "
MOST_STATEMENTS = 24
MOST_IN_ROW = 8
DEEPEST = 3
LEAST_WAYS = 2
MOST_WAYS = 3
NOTHING = -1
LONE_WORDS = ("take", "choose", "loop", "end")
BLOCK_WORDS = ("if", "choose", "loop")


class Reader:
    """Reads the lines behind a sheet: BadText at the first one that cannot stand where it stands."""

    def __init__(self, lines, at, sheet):
        self.lines = lines
        self.at = at
        self.key_names = sheet.names
        self.key_sizes = sheet.sizes
        self.many = 0

    def read_parts(self):
        """All parts: rows of (line, name, way, statements)."""
        rows = []
        while not rows or self.at < len(self.lines):
            words = self.words(0)
            if len(rows) == MOST_PARTS or not is_part(words) or words[1] in [row[1] for row in rows]:
                raise BadText(self.at)
            line = self.at
            self.at += 1
            rows.append((line, words[1], words[2], self.block(1, 1)))
        return rows

    def words(self, indent):
        """The words of the line that comes next, behind these blanks; [] if it has not so many, or there is none."""
        if not self.is_below(indent):
            return []
        return words_of(self.lines[self.at][len(INDENT) * indent:])

    def is_below(self, indent):
        """Whether the line that comes next stands at least as deep."""
        return self.at < len(self.lines) and self.lines[self.at].startswith(INDENT * indent)

    def block(self, indent, depth):
        """One to eight statements that stand as deep."""
        rows = []
        while not rows or self.is_below(indent):
            if len(rows) == MOST_IN_ROW:
                raise BadText(self.at)
            rows.append(self.statement(indent, depth))
        return rows

    def statement(self, indent, depth):
        """A statement, with all that stands below it."""
        line = self.at
        told = self.told(self.words(indent))
        if told is None or self.many == MOST_STATEMENTS or (depth == DEEPEST and told[0] in BLOCK_WORDS):
            raise BadText(line)
        self.many += 1
        self.at += 1
        return (line, *told, self.blocks(told[0], indent, depth + 1))

    def told(self, words):
        """The (kind, what, worth) of the words of a statement, None if they are none."""
        if len(words) == 1 and words[0] in LONE_WORDS:
            return (words[0], NOTHING, NOTHING)
        if len(words) == 2 and words[0] == "ask" and is_name(words[1]):
            return ("ask", words[1], NOTHING)
        if len(words) == 2 and words[0] == "read" and words[1] in self.key_names:
            return ("read", self.key_names.index(words[1]), NOTHING)
        if len(words) == 4 and words[0] == "if" and words[1] in self.key_names and words[2] == "=":
            place = self.key_names.index(words[1])
            worth = number_of(words[3])
            if worth is not None and worth < self.key_sizes[place]:
                return ("if", place, worth)
        return None

    def blocks(self, kind, indent, depth):
        """What stands below a statement, and behind it what belongs to it still."""
        if kind == "if":
            done = self.block(indent + 1, depth)
            return [done, self.otherwise(indent, depth)]
        if kind == "choose":
            return self.choices(indent + 1, depth)
        if kind == "loop":
            return [self.block(indent + 1, depth)]
        return []

    def otherwise(self, indent, depth):
        """The statements of an else, [] if there is none."""
        if self.words(indent) != ["else"]:
            return []
        self.at += 1
        return self.block(indent + 1, depth)

    def choices(self, indent, depth):
        """The statements of two or three ways."""
        rows = []
        while len(rows) < LEAST_WAYS or (len(rows) < MOST_WAYS and self.words(indent) == ["way"]):
            if self.words(indent) != ["way"]:
                raise BadText(self.at)
            self.at += 1
            rows.append(self.block(indent + 1, depth))
        return rows


def is_part(words):
    """Whether these are the words of a line `part NAME WAY`."""
    return len(words) == 3 and words[0] == "part" and is_name(words[1]) and words[2] in WAYS


def all_statements(rows):
    """All statements of rows and of all blocks below them, in the sequence of their lines."""
    found = []
    for row in rows:
        found.append(row)
        for block in row[-1]:
            found.extend(all_statements(block))
    return found
