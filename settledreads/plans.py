"""Plans: parts, and the way by which each comes to the edition that it reads."""

from settledreads.errors import BadText
from settledreads.texts import is_name, lines_of, words_of

MOST_PARTS = 4
WAYS = ("fresh", "once", "handed", "kept")


class Plan:
    """The parts that a text tells, with their ways."""

    def __init__(self, text):
        rows = read_parts(lines_of(text))
        self._text = text
        self._parts = tuple([row[0] for row in rows])
        self._ways = tuple([row[1] for row in rows])
        self._takes = tuple([row[2] for row in rows])

    @property
    def text(self):
        """The text that it was read from."""
        return self._text

    @property
    def parts(self):
        """The names of the parts, in the sequence of the text."""
        return self._parts

    @property
    def ways(self):
        """The way of each part, in the sequence of the text."""
        return self._ways

    @property
    def takes(self):
        """Whether each part takes, in the sequence of the text."""
        return self._takes

    def __eq__(self, other):
        return isinstance(other, Plan) and self._text == other._text


def part_of(line):
    """The (name, way, takes) of a line `part NAME WAY` or `part NAME WAY takes`, None for no such one."""
    words = words_of(line)
    if len(words) < 3 or words[0] != "part" or not is_name(words[1]) or words[2] not in WAYS:
        return None
    if words[3:] not in ([], ["takes"]):
        return None
    return (words[1], words[2], len(words) == 4)


def read_parts(lines):
    """The (name, way, takes) of all lines."""
    rows = []
    for number, line in enumerate(lines):
        part = part_of(line)
        if number == MOST_PARTS or part is None or part[0] in [row[0] for row in rows]:
            raise BadText(number)
        rows.append(part)
    return rows
