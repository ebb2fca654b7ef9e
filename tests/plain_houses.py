"""Houses, told once more: which lines can stand, line by line with a stack, and random texts.

Nothing here is taken from the package but Sheet, for the lines ahead of the parts.
"""

import random

WAYS = ('fresh', 'once', 'handed', 'kept')
SHEETS = (
    'key x 2', 'key x 2\nkey y 2', 'key mode 2\nkey size 3\nrule mode = 0 or size != 2', 'key x 2\nkey y 2\nrule x = 0 or y = 0',
    'key if 3\nkey read 2\nkey else 2\nrule if != 0 or read = 1\nrule if = 0 or else = 0', 'key x 2\nrule x = 1',
)


def sizes_of(sheet_text):
    """The sizes of the keys of a sheet, by their names."""
    rows = [line.split(' ') for line in sheet_text.split('\n')]
    return {row[1]: int(row[2]) for row in rows if row[0] == 'key'}


def is_name(word):
    return 1 <= len(word) <= 8 and word.isascii() and word.isalpha() and word.islower()


def is_worth(word, size):
    return word in [str(number) for number in range(size)]


def kind_of(words, sizes):
    """The kind of a statement, None for no right one."""
    if words in (['take'], ['choose'], ['loop'], ['end']):
        return words[0]
    if len(words) == 2 and words[0] == 'read' and words[1] in sizes:
        return 'read'
    if len(words) == 2 and words[0] == 'ask' and is_name(words[1]):
        return 'ask'
    if len(words) == 4 and words[0] == 'if' and words[1] in sizes and words[2] == '=' and is_worth(words[3], sizes[words[1]]):
        return 'if'
    return None


class Lines:
    """What can stand behind the lines so far: frames from the outermost one in."""

    def __init__(self, sizes):
        self.sizes = sizes
        self.frames = []
        self.parts = []
        self.statements = 0

    def takes(self, line):
        """Whether the line can stand there; if so it does."""
        blanks = len(line) - len(line.lstrip(' '))
        words = line[blanks:].split(' ')
        while self.frames:
            frame = self.frames[-1]
            if blanks == frame['blanks'] and self.fits(frame, words):
                return True
            if blanks >= frame['blanks'] and frame['kind'] != 'if':
                return False
            if not self.is_full(frame):
                return False
            self.frames.pop()
        return blanks == 0 and self.is_part(words)

    def is_full(self, frame):
        """Whether nothing is missing in a frame."""
        return frame['many'] >= {'block': 1, 'ways': 2, 'if': 0}[frame['kind']]

    def fits(self, frame, words):
        if frame['kind'] == 'ways':
            return words == ['way'] and frame['many'] < 3 and self.add(frame, frame['depth'])
        if frame['kind'] == 'if':
            return words == ['else'] and frame['many'] == 0 and self.add(frame, frame['depth'] + 1)
        kind = kind_of(words, self.sizes)
        if kind is None or frame['many'] == 8 or self.statements == 24:
            return False
        if frame['depth'] == 3 and kind in ('if', 'choose', 'loop'):
            return False
        self.statements += 1
        frame['many'] += 1
        if kind == 'choose':
            self.push('ways', frame['blanks'] + 2, frame['depth'] + 1)
        if kind == 'if':
            self.push('if', frame['blanks'], frame['depth'])
        if kind in ('if', 'loop'):
            self.push('block', frame['blanks'] + 2, frame['depth'] + 1)
        return True

    def add(self, frame, depth):
        """A way or an else stands; its statements are to come."""
        frame['many'] += 1
        self.push('block', frame['blanks'] + 2, depth)
        return True

    def push(self, kind, blanks, depth):
        self.frames.append({'kind': kind, 'blanks': blanks, 'depth': depth, 'many': 0})

    def is_part(self, words):
        if len(words) != 3 or words[0] != 'part' or not is_name(words[1]) or words[2] not in WAYS:
            return False
        if len(self.parts) == 4 or words[1] in self.parts:
            return False
        self.parts.append(words[1])
        self.push('block', 2, 1)
        return True


def first_wrong(sheet_text, lines):
    """The number of the line that BadText has, for lines behind those of a sheet; None if all is right."""
    ahead = len(sheet_text.split('\n'))
    state = Lines(sizes_of(sheet_text))
    for number, line in enumerate(lines):
        if not state.takes(line):
            return ahead + number
    if not state.parts or not all([state.is_full(frame) for frame in state.frames]):
        return ahead + len(lines)
    return first_bad_ask(state.parts, ahead, lines)


def first_bad_ask(parts, ahead, lines):
    at = -1
    for number, line in enumerate(lines):
        words = line.strip(' ').split(' ')
        if not line.startswith(' '):
            at += 1
        elif words[0] == 'ask' and words[1] not in parts[at + 1:]:
            return ahead + number
    return None


class Maker:
    """Random programs of parts, within all limits."""

    def __init__(self, source, sizes, parts, most=24):
        self.source = source
        self.sizes = sizes
        self.parts = parts
        self.left = most

    def program(self, at, many):
        """The lines of a program, for so many statements or fewer."""
        self.budget = many
        return self.block(at, 1, '  ')

    def block(self, at, depth, blanks):
        rows = self.statement(at, depth, blanks)
        for _ in range(self.source.randint(0, 3)):
            if self.budget > 0:
                rows += self.statement(at, depth, blanks)
        return rows

    def statement(self, at, depth, blanks):
        self.budget -= 1
        name = self.source.choice(list(self.sizes))
        kinds = ['read', 'read', 'read', 'take', 'end'] + ['ask', 'ask'] * (at + 1 < len(self.parts))
        if depth < 3 and self.budget >= 3:
            kinds += ['if', 'if', 'choose', 'loop']
        kind = self.source.choice(kinds)
        if kind == 'end' and self.source.random() < 0.7:
            kind = 'read'
        if kind == 'read':
            return [f'{blanks}read {name}']
        if kind == 'ask':
            return [f'{blanks}ask {self.source.choice(self.parts[at + 1:])}']
        if kind == 'loop':
            return [f'{blanks}loop', *self.block(at, depth + 1, blanks + '  ')]
        if kind == 'choose':
            return [f'{blanks}choose', *self.ways(at, depth, blanks + '  ')]
        if kind == 'if':
            head = f'{blanks}if {name} = {self.source.randrange(self.sizes[name])}'
            return [head, *self.block(at, depth + 1, blanks + '  '), *self.otherwise(at, depth, blanks)]
        return [blanks + kind]

    def ways(self, at, depth, blanks):
        rows = []
        for _ in range(self.source.choice([2, 2, 3])):
            rows += [f'{blanks}way', *self.block(at, depth + 1, blanks + '  ')]
        return rows

    def otherwise(self, at, depth, blanks):
        if self.budget < 1 or self.source.random() < 0.5:
            return []
        return [f'{blanks}else', *self.block(at, depth + 1, blanks + '  ')]


def random_parts(source, sizes, many, most=8):
    """The lines of so many parts, which may be over the limits of a house where most is great."""
    names = source.sample(['a', 'b', 'part', 'read', 'end', 'way', 'abcdefgh', 'z', 'if'], many)
    lines = []
    for at, name in enumerate(names):
        lines.append(f'part {name} {source.choice(WAYS)}')
        lines += Maker(source, sizes, names).program(at, source.randint(1, most))
    return lines


def random_text(source, many, most=8):
    """The text of a house that can be read."""
    while True:
        sheet = source.choice(SHEETS)
        lines = random_parts(source, sizes_of(sheet), many, most)
        if first_wrong(sheet, lines) is None:
            return '\n'.join([sheet, *lines])


def some_texts(seed, count, most=8):
    source = random.Random(seed)
    return [random_text(source, source.randint(1, 4), most) for _ in range(count)]
