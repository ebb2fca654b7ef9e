"""Sheets: keys with worths, by rules."""

from settledreads.errors import BadText
from settledreads.lits import all_worths, lits_of, truth
from settledreads.rules import Rule
from settledreads.texts import is_name, lines_of, number_of, words_of

MOST_KEYS = 3
MOST_RULES = 4
SIZES = (2, 3)
RULE_WORD = "rule "


class Sheet:
    """The keys and rules that a text tells, with all editions that keep the rules."""

    def __init__(self, text):
        lines = lines_of(text)
        names, sizes = read_keys(lines)
        rows, editions = read_rules(lines, names, sizes)
        self._text = text
        self._names = names
        self._sizes = sizes
        self._editions = tuple(editions)
        self._rules = tuple([Rule(self, line[len(RULE_WORD):], lits) for line, lits in rows])

    @property
    def text(self):
        """The text that it was read from."""
        return self._text

    @property
    def names(self):
        """The names of the keys, in the sequence of the text."""
        return self._names

    @property
    def sizes(self):
        """How many worths each key has, in the sequence of the text."""
        return self._sizes

    @property
    def rules(self):
        """The Rules, the same ones each time."""
        return self._rules

    @property
    def editions(self):
        """The ascending tuple of all editions, each a tuple of worths in the sequence of keys."""
        return self._editions

    def __eq__(self, other):
        return isinstance(other, Sheet) and self._text == other._text


def key_of(line):
    """The (name, size) of a line `key NAME SIZE`, None if it has not this form."""
    words = words_of(line)
    if len(words) != 3 or words[0] != "key" or not is_name(words[1]):
        return None
    size = number_of(words[2])
    if size not in SIZES:
        return None
    return (words[1], size)


def read_keys(lines):
    """(names, sizes) of the lines of keys, which end where a line is none that can stand there."""
    names = []
    sizes = []
    for line in lines[:MOST_KEYS]:
        key = key_of(line)
        if key is None or key[0] in names:
            break
        names.append(key[0])
        sizes.append(key[1])
    return tuple(names), tuple(sizes)


def read_rules(lines, names, sizes):
    """(rows, editions): (line, lits) of all lines behind the keys, and what they leave."""
    rows = []
    editions = all_worths(sizes)
    # Where no key stands ahead, no line can be a rule: so the first line is told as wrong here, too.
    for number in range(len(names), len(lines)):
        lits = lits_of(lines[number], names, sizes)
        editions = [worths for worths in editions if truth(lits, worths)]
        if len(rows) == MOST_RULES or not lits or not editions:
            raise BadText(number)
        rows.append((lines[number], lits))
    return rows, editions
