"""Houses: a sheet, and parts with their ways and programs."""

from settledreads.errors import BadText, BadWays, NoPart
from settledreads.forms import is_row
from settledreads.plans import WAYS, Plan
from settledreads.programs import Program
from settledreads.sheets import Sheet
from settledreads.statements import Reader, all_statements
from settledreads.texts import lines_of, words_of


class House:
    """The sheet, the plan and the programs that a text tells."""

    def __init__(self, text):
        lines = lines_of(text)
        many = sheet_lines(lines)
        self._sheet = Sheet("\n".join(lines[:many]))
        rows = Reader(lines, many, self._sheet).read_parts()
        check_asks(rows)
        self._text = text
        self._plan = Plan("\n".join([part_text(row) for row in rows]))
        self._headers = tuple([row[0] for row in rows])
        self.program = Program(rows)

    @property
    def text(self):
        """The text that it was read from."""
        return self._text

    @property
    def sheet(self):
        """The Sheet of its first lines."""
        return self._sheet

    @property
    def plan(self):
        """The Plan that has its parts and ways."""
        return self._plan

    def first_line(self, part):
        """The number of the line of a part's first statement: NoPart."""
        return self.program.firsts[number_of_part(self, part)]

    def with_ways(self, ways):
        """The house with other ways: BadWays."""
        if not is_row(ways, len(self._headers)) or not all([way in WAYS for way in ways]):
            raise BadWays(ways)
        lines = lines_of(self._text)
        for at, name, way in zip(self._headers, self._plan.parts, ways):
            lines[at] = f"part {name} {way}"
        return House("\n".join(lines))

    def __eq__(self, other):
        return isinstance(other, House) and self._text == other._text


def sheet_lines(lines):
    """How many lines stand ahead of the first part."""
    for number, line in enumerate(lines):
        if words_of(line)[0] == "part":
            return number
    return len(lines)


def check_asks(rows):
    """BadText at the first ask of a part that does not stand below the asking one."""
    names = [row[1] for row in rows]
    for number, row in enumerate(rows):
        for line, kind, what, _, _ in all_statements(row[-1]):
            if kind == "ask" and what not in names[number + 1:]:
                raise BadText(line)


def part_text(row):
    """The line of a plan for a part of a house."""
    _, name, way, statements = row
    takes = "take" in [statement[1] for statement in all_statements(statements)]
    return f"part {name} {way} takes" if takes else f"part {name} {way}"


def number_of_part(house, part):
    """The number of a part of a house: NoPart for what is none."""
    if part not in house.plan.parts:
        raise NoPart(part)
    return house.plan.parts.index(part)
