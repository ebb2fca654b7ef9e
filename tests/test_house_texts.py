"""Texts of houses that cannot be read: the number of the first line that cannot stand there."""

import random
import unittest

from plain_houses import SHEETS, first_wrong, random_parts, sizes_of
from samples import no_strings, raises

from settledreads.errors import BadText
from settledreads.houses import House

SHEET = 'key mode 2\nkey size 3'
WRONG = (
    '', ' ', '  ', '    ', 'read mode', ' read mode', '   read mode', '    read mode', '      read mode', '\tread mode', '  \tread mode',
    '  read', '  read modes', '  read none', '  read Mode', '  read mode ', '  read  mode', '  read\tmode', '  read mode size', '  Read mode',
    '  mode', '  read 0', '  ask', '  ask ', '  ask b c', '  ask B', '  ask b1', '  ask abcdefghi', '  ask 0', '  ask a_b', '  take b',
    '  take ', '  takes', '  Take', '  end end', '  ends', '  end ', '  ', '  way', '    way', '  else', '    else', '  choose one', '  loop 2',
    '  loops', '  part b once', 'key mode 2', 'rule mode = 0', 'part', 'part b', 'part b once takes', 'part B once', 'part abcdefghi once',
    'part b all', 'part b Once', 'part  b once', 'part b  once', 'part b once ', 'part b\tonce', 'parts b once', 'once', '  if', '  if mode',
)
WRONG_IFS = (
    'if mode', 'if mode = ', 'if mode = 2', 'if size = 3', 'if mode = 00', 'if mode = 01', 'if mode = -1', 'if mode = x', 'if mode != 1',
    'if mode == 1', 'if mode 1', 'if none = 0', 'if = 0', 'if mode = 1 or size = 2', 'if mode = 0000000001', 'if mode = 1 ', 'if  mode = 1',
    'if mode=1', 'if mode = 1 else', 'If mode = 1', 'if size = 1000000000',
)
POOL = (
    '  read x', '    way', 'way', '  way', '      way', 'else', '  else', '    else', '  choose', '    choose', '      choose', '  loop',
    '    loop', '      loop', '  if x = 0', '    if x = 1', '      if x = 0', '  take', '    take', '        take', '  end', '    end',
    'part b once', 'part a once', 'part q kept', '  ask b', '    ask zz', '', '  ', '   read x', '\tread x', '  read  x', '  read q',
    '  if x = 9', '  if x != 0', '  if x = 00', 'rule x = 0', 'key z 2', '  read x ', '          read x', '        read x', '      read x',
)


class BadTextTest(unittest.TestCase):
    def check(self, number, *lines):
        raises(self, BadText, number, House, '\n'.join(lines))

    def test_no_string(self):
        for value in no_strings() + [b'key a 2\npart a once\n  read a', ['key a 2']]:
            raises(self, BadText, -1, House, value)

    def test_lines_of_the_sheet(self):
        self.check(0, '')
        self.check(0, '', 'part a once', '  read mode')
        self.check(0, 'part a once', '  read mode')
        self.check(0, 'rule mode = 0', 'part a once', '  read mode')
        self.check(1, 'key mode 2', 'key mode 2', 'part a once', '  read mode')
        self.check(3, 'key a 2', 'key b 2', 'key c 2', 'key d 2', 'part a once', '  read a')
        self.check(5, 'key a 2', *['rule a = 0'] * 5, 'part a once', '  read a')
        self.check(2, 'key a 2', 'rule a = 0', 'rule a = 1', 'part a once', '  read a')
        self.check(1, 'key a 2', 'rule b = 0', 'part a once', '  read a')
        self.check(1, 'key a 2', 'rule a = 2', 'part a once', '  read a')
        self.check(1, 'key a 2', 'key b 4', 'part a once', '  read a')
        self.check(2, 'key a 2', 'rule a = 0', 'key b 2', 'part a once', '  read a')
        self.check(1, 'key a 2', '', 'part a once', '  read a')
        self.check(1, 'key a 2', '  read a', 'part a once', '  read a')
        self.check(1, 'key a 2', 'rule a = 0 or', 'part a', '  read q')
        self.check(2, 'key a 2', 'rule a = 0', 'rule a = 1 or a = 1', 'part a', '  read q')

    def test_missing_at_the_end(self):
        self.check(2, 'key mode 2', 'key size 3')
        self.check(3, SHEET, 'part a once')
        self.check(4, SHEET, 'part a once', '  loop')
        self.check(4, SHEET, 'part a once', '  if mode = 0')
        self.check(4, SHEET, 'part a once', '  choose')
        self.check(5, SHEET, 'part a once', '  choose', '    way')
        self.check(6, SHEET, 'part a once', '  choose', '    way', '      read mode')
        self.check(7, SHEET, 'part a once', '  choose', '    way', '      read mode', '    way')
        self.check(6, SHEET, 'part a once', '  if mode = 0', '    read mode', '  else')
        self.check(5, SHEET, 'part a once', '  read mode', 'part b once')
        self.check(5, SHEET, 'part a once', '  ask zz', 'part b once')
        self.check(8, SHEET, 'part a once', '  loop', '    choose', '      way', '        end', '      way')

    def test_a_line_feed_behind_the_last_line(self):
        self.check(2, SHEET, '')
        self.check(3, SHEET, 'part a once', '')
        self.check(4, SHEET, 'part a once', '  read mode', '')

    def test_wrong_lines(self):
        rows = [line for line in WRONG if line != 'part']
        for line in [*rows, 'part', *['  ' + row for row in WRONG_IFS]]:
            self.check(3, SHEET, 'part a once', line)
            self.check(3, SHEET, 'part a once', line, '  read mode', 'part ? once')
            if line not in ('  else',):
                self.check(4, SHEET, 'part a once', '  take', line, '  read mode')
                self.check(7, SHEET, 'part a once', '  read mode', 'part c once', '  ask zz', '  end', line)
        for line in WRONG_IFS:
            self.check(4, SHEET, 'part a once', '  loop', '    ' + line, '      read mode')

    def test_first_of_parts(self):
        for line in ('part', 'part a', 'part a once takes', 'part A once', 'part abcdefghi once', 'part a all', ' part a once', 'part a once '):
            self.check(2, SHEET, line, '  read mode')
            self.check(4, SHEET, 'part b once', '  read mode', line, '  read mode')

    def test_depths(self):
        for line in ('if mode = 0', 'loop', 'choose'):
            self.check(5, SHEET, 'part a once', '  loop', '    if size = 1', f'      {line}', '        read mode')
            self.check(7, SHEET, 'part a once', '  choose', '    way', '      choose', '        way', f'          {line}', '  read mode')
            House('\n'.join([SHEET, 'part a once', '  loop', '    if size = 1', '      read mode']))
        self.check(4, SHEET, 'part a once', '  read mode', '    read mode')
        self.check(4, SHEET, 'part a once', '  loop', '  read mode')
        self.check(4, SHEET, 'part a once', '  loop', '      read mode')
        self.check(4, SHEET, 'part a once', '  loop', '   read mode')
        self.check(5, SHEET, 'part a once', '  loop', '    read mode', '   read mode')
        self.check(5, SHEET, 'part a once', '  loop', '    read mode', '      read mode')
        self.check(5, SHEET, 'part a once', '  loop', '    read mode', ' read mode')
        self.check(5, SHEET, 'part a once', '  choose', '    way', '    read mode')

    def test_else(self):
        for rows in (
            ['  else'], ['  read mode', '  else'], ['  loop', '    read mode', '  else'], ['  if mode = 0', '  else'],
            ['  if mode = 0', '    read mode', 'else'], ['  if mode = 0', '    read mode', '    else'],
            ['  if mode = 0', '    read mode', '  read size', '  else'], ['  if mode = 0', '    read mode', '  else', '    read mode', '  else'],
            ['  choose', '    way', '      end', '    way', '      end', '  else'], ['  if mode = 0', '    read mode', '  else '],
            ['  if mode = 0', '    read mode', '  else size'], ['  if mode = 0', '    read mode', '   else'],
            ['  loop', '    if mode = 0', '      end', '  else'],
        ):
            self.check(2 + len(rows), SHEET, 'part a once', *rows, '    read mode')
            self.check(4 + len(rows), SHEET, 'part b once', '  end', 'part a once', *rows)

    def test_ways(self):
        way = ['    way', '      end']
        for rows in (
            ['  way'], ['  choose', '    read mode'], ['  choose', '  way'], ['  choose', '      way'], ['  choose', '    way '],
            ['  choose', '    ways'], ['  choose', '    way 0'], ['  choose', *way, '  read mode'], ['  choose', *way, 'part b once'],
            ['  choose', *way, '    read mode'], ['  choose', *way, '  way'], ['  choose', *way * 4], ['  choose', *way * 3, '    way'],
            ['  choose', *way * 2, '    read mode'], ['  choose', *way * 3, '    read mode'], ['  choose', *way, '  else'],
        ):
            at = len(rows)
            if rows == ['  choose', *way * 4]:
                at = 8
            self.check(2 + at, SHEET, 'part a once', *rows)
            self.check(2 + at, SHEET, 'part a once', *rows, '  read mode')
        House('\n'.join([SHEET, 'part a once', '  choose', *way * 3, '  read mode']))

    def test_a_ninth_in_a_row(self):
        nine = ['  read mode'] * 9
        self.check(11, SHEET, 'part a once', *nine)
        self.check(11, SHEET, 'part a once', *nine[:8], '  end')
        self.check(11, SHEET, 'part a once', *nine[:8], '  else')
        self.check(12, SHEET, 'part a once', '  loop', *['  ' + line for line in nine])
        self.check(12, SHEET, 'part a once', '  if mode = 1', *['  ' + line for line in nine])
        self.check(14, SHEET, 'part a once', '  if mode = 1', '    end', '  else', *['  ' + line for line in nine])
        self.check(13, SHEET, 'part a once', '  choose', '    way', *['    ' + line for line in nine])
        self.check(19, SHEET, 'part a once', '  loop', *['  ' + line for line in nine[:8]], *nine[:7], '  end')
        House('\n'.join([SHEET, 'part a once', '  loop', *['  ' + line for line in nine[:8]], *nine[:7]]))

    def test_a_twenty_fifth_statement(self):
        eight = ['  read mode'] * 8
        rows = ['part a once', *eight, 'part b once', *eight, 'part c once', *eight]
        House('\n'.join([SHEET, *rows]))
        self.check(30, SHEET, *rows, 'part d once', '  end')
        self.check(30, SHEET, *rows, 'part d once')
        self.check(29, SHEET, *rows, 'part e')
        inner = ['part c once', *eight[:7], '  if mode = 0']
        self.check(29, SHEET, *rows[:18], *inner, '    end')
        self.check(29, SHEET, *rows[:18], *inner)
        ways = ['part c once', *eight[:5], '  choose', '    way', '      end', '    way', '      end']
        House('\n'.join([SHEET, *rows[:18], *ways]))
        self.check(32, SHEET, *rows[:18], *ways, '    way', '      end')
        self.check(31, SHEET, *rows[:18], *ways, '  end')

    def test_a_fifth_part_and_a_name_twice(self):
        four = [line for name in 'abcd' for line in (f'part {name} once', '  read mode')]
        House('\n'.join([SHEET, *four]))
        self.check(10, SHEET, *four, 'part e once', '  read mode')
        self.check(10, SHEET, *four, 'part e once')
        self.check(4, SHEET, *four[:2], 'part a once', '  read mode')
        self.check(8, SHEET, *four[:6], 'part b kept', '  read mode')

    def test_an_ask_of_a_part_that_does_not_stand_below(self):
        self.check(3, SHEET, 'part a once', '  ask a')
        self.check(3, SHEET, 'part a once', '  ask zz')
        self.check(3, SHEET, 'part a once', '  ask mode', 'part b once', '  read size')
        self.check(5, SHEET, 'part a once', '  read mode', 'part b once', '  ask a')
        self.check(6, SHEET, 'part a once', '  ask b', 'part b once', '  loop', '    ask b')
        self.check(4, SHEET, 'part a once', '  ask b', '  ask a', 'part b once', '  ask zz')
        self.check(6, SHEET, 'part a once', '  end', '  if mode = 0', '    end', '    ask a', '  else', '    ask zz')

    def test_an_ask_comes_behind_all_other_lines(self):
        self.check(4, SHEET, 'part a once', '  ask zz', '  read none')
        self.check(5, SHEET, 'part a once', '  ask a', '  read mode', '')
        self.check(5, SHEET, 'part a once', '  ask a', 'part b once')
        self.check(5, SHEET, 'part a once', '  ask zz', '  loop')
        self.check(4, SHEET, 'part a once', '  ask zz', 'part a once', '  read mode')

    def test_random_lines_changed(self):
        source = random.Random(8)
        outcomes = {}
        for _ in range(4000):
            sheet = source.choice(SHEETS)
            lines = random_parts(source, sizes_of(sheet), source.randint(1, 4), source.choice([3, 8, 20, 40]))
            for _ in range(source.randint(0, 2)):
                lines = changed(source, lines)
            if lines and lines[0][:3] in ('rul', 'key'):
                continue
            wanted = first_wrong(sheet, lines)
            text = '\n'.join([sheet, *lines])
            if wanted is None:
                self.assertEqual(House(text).text, text)
            else:
                raises(self, BadText, wanted, House, text)
            kind = 'right' if wanted is None else 'missing' if wanted == len(text.split('\n')) else 'wrong'
            outcomes[kind] = outcomes.get(kind, 0) + 1
        self.assertTrue(all([outcomes[kind] > 100 for kind in ('right', 'missing', 'wrong')]), outcomes)


def changed(source, lines):
    """The lines with one thing done to one of them."""
    at = source.randrange(len(lines) + 1)
    deed = source.randrange(6)
    if deed == 0:
        return lines[:at]
    if deed == 1 or at == len(lines):
        return [*lines[:at], source.choice(POOL), *lines[at:]]
    if deed == 2:
        return [*lines[:at], *lines[at + 1:]]
    if deed == 3:
        return [*lines[:at], source.choice(lines), *lines[at:]]
    if deed == 4:
        return [*lines[:at], '  ' + lines[at], *lines[at + 1:]]
    return [*lines[:at], lines[at][2:], *lines[at + 1:]]


if __name__ == '__main__':
    unittest.main()
