"""Houses that can be read, and what they tell."""

import random
import unittest

from plain_houses import SHEETS, some_texts
from plain_runs import Home
from samples import raises, strange_values

from settledreads.errors import BadWays, NoPart
from settledreads.houses import House
from settledreads.plans import Plan
from settledreads.sheets import Sheet

SHEET = 'key mode 2\nkey size 3'
WHOLE = '''key mode 2
key size 3
rule mode = 0 or size != 2
part front fresh
  read mode
  if size = 2
    if mode = 0
      read size
      ask back
      take
      end
    else
      end
    choose
      way
        read mode
      way
        take
        read size
    loop
      end
  else
    loop
      take
  choose
    way
      if mode = 1
        read size
    way
      read mode
    way
      end
  loop
    read size
part back once
  read mode'''
WAYS = ('fresh', 'once', 'handed', 'kept')


class HouseTest(unittest.TestCase):
    def test_each_statement_at_each_depth(self):
        house = House(WHOLE)
        self.assertEqual(house.text, WHOLE)
        self.assertEqual(house.sheet, Sheet('key mode 2\nkey size 3\nrule mode = 0 or size != 2'))
        self.assertEqual(house.plan, Plan('part front fresh takes\npart back once'))
        self.assertEqual([house.first_line('front'), house.first_line('back')], [4, 35])

    def test_one_statement_alone(self):
        for line in ('read mode', 'ask b', 'take', 'end', 'if size = 2\n    end', 'loop\n    end', 'choose\n    way\n      end\n    way\n      end'):
            for more in ('', '\n  read mode', '\n  end', '\n  take'):
                house = House(f'{SHEET}\npart a once\n  {line}{more}\npart b kept\n  read size')
                takes = ' takes' if 'take' in line + more else ''
                self.assertEqual(house.plan, Plan(f'part a once{takes}\npart b kept'))
                self.assertEqual(house.first_line('a'), 3)

    def test_statements_behind_end(self):
        house = House(f'{SHEET}\npart a kept\n  end\n  take\n  if mode = 0\n    end\n    read size\n  else\n    read mode')
        self.assertEqual(house.plan.text, 'part a kept takes')

    def test_take_counts_at_any_depth_of_its_own_part_alone(self):
        deep = 'part a fresh\n  loop\n    choose\n      way\n        take\n      way\n        end\npart b once\n  read mode'
        self.assertEqual(House(f'{SHEET}\n{deep}').plan.takes, (True, False))
        other = 'part a fresh\n  read mode\npart b handed\n  if mode = 0\n    end\n  else\n    take'
        self.assertEqual(House(f'{SHEET}\n{other}').plan.text, 'part a fresh\npart b handed takes')

    def test_eight_in_a_row_and_twenty_four_in_all(self):
        eight = '\n'.join(['  read mode'] * 8)
        self.assertEqual(House(f'{SHEET}\npart a once\n{eight}\npart b once\n{eight}\npart c once\n{eight}').plan.parts, ('a', 'b', 'c'))
        inner = '\n'.join(['    read mode'] * 8)
        House(f'{SHEET}\npart a once\n  if mode = 1\n{inner}\n  else\n{inner}')
        ways = '\n'.join(['    way\n' + '\n'.join(['      read mode'] * 7)] * 3)
        House(f'{SHEET}\npart a once\n  choose\n{ways}\n  read mode\n  end')

    def test_four_parts_and_all_ways(self):
        for way in WAYS:
            lines = [f'part {name} {way}\n  read mode' for name in 'dbca']
            house = House('\n'.join([SHEET, *lines]))
            self.assertEqual((house.plan.parts, house.plan.ways), (('d', 'b', 'c', 'a'), (way,) * 4))
            self.assertEqual([house.first_line(name) for name in 'dbca'], [3, 5, 7, 9])

    def test_names_like_words(self):
        text = 'key key 2\nkey part 2\nkey rule 3\nrule rule = 2 or part != 1\npart part once\n  read rule\n  ask once\n  if part = 1\n' \
            '    ask take\n  else\n    read key\npart once handed\n  read part\npart take kept\n  loop\n    read key'
        house = House(text)
        self.assertEqual(house.plan, Plan('part part once\npart once handed\npart take kept'))
        self.assertEqual(house.sheet.names, ('key', 'part', 'rule'))
        self.assertEqual([house.first_line(name) for name in house.plan.parts], [5, 12, 14])
        other = House(f'key a 2\npart a once\n  ask b\n  read a\npart b fresh\n  if a = 0\n    read a')
        self.assertEqual(other.first_line('b'), 5)

    def test_random_texts(self):
        kinds = set()
        for text in some_texts(2, 300, 24):
            house, home = House(text), Home(text)
            kinds |= {node.kind for node in home.nodes.values()}
            self.assertEqual((house.text, house.sheet), (text, home.sheet))
            self.assertEqual((house.plan.parts, house.plan.ways), (tuple(home.parts), tuple(home.ways)))
            takes = [any([home.nodes[line].kind == 'take' for line in home.lines_of(top)[1:]]) for top in home.rows]
            self.assertEqual(house.plan.takes, tuple(takes))
            rows = [' '.join(['part', *row]) for row in zip(home.parts, home.ways)]
            text = '\n'.join([row + ' takes' if told else row for row, told in zip(rows, takes)])
            self.assertEqual((house.plan.text, house.plan), (text, Plan(text)))
            self.assertEqual([house.first_line(name) for name in home.parts], [top.below[0].line for top in home.rows])
        self.assertEqual(kinds, {'read', 'if', 'else', 'ask', 'take', 'choose', 'way', 'loop', 'end'})

    def test_all_sheets(self):
        for text in SHEETS:
            name = Sheet(text).names[0]
            self.assertEqual(House(f'{text}\npart a once\n  read {name}').sheet.text, text)

    def test_no_part(self):
        house = House(WHOLE)
        for value in strange_values() + ['Front', 'front ', ('front',), 'mode']:
            raises(self, NoPart, value, house.first_line, value)

    def test_arguments_by_name_and_properties(self):
        house = House(text=WHOLE)
        self.assertEqual(house.first_line(part='back'), 35)
        self.assertEqual(house.with_ways(ways=('once', 'once')).plan.ways, ('once', 'once'))
        for name in ('text', 'sheet', 'plan'):
            with self.assertRaises(AttributeError):
                setattr(house, name, None)


class EqualTest(unittest.TestCase):
    def test_by_text(self):
        self.assertIs(House(WHOLE) == House(WHOLE), True)
        self.assertIs(House(WHOLE) != House(WHOLE), False)
        other = House(WHOLE.replace('back once', 'back fresh'))
        self.assertIs(House(WHOLE) == other, False)
        self.assertIs(House(WHOLE) != other, True)
        self.assertIs(House(WHOLE) == House(WHOLE.replace('back', 'rear')), False)
        self.assertIs(other.with_ways(('fresh', 'once')) == House(WHOLE), True)

    def test_nothing_else(self):
        house = House(WHOLE)
        for value in strange_values() + [WHOLE, house.sheet, house.plan, (WHOLE,)]:
            self.assertIs(house == value, False)
            self.assertIs(value == house, False)
            self.assertIs(house != value, True)


class WithWaysTest(unittest.TestCase):
    def test_words_are_exchanged_in_the_text(self):
        source = random.Random(5)
        for text in some_texts(6, 60):
            house, home = House(text), Home(text)
            lines = text.split('\n')
            ways = tuple([source.choice(WAYS) for _ in home.parts])
            for top, name, way in zip(home.rows, home.parts, ways):
                lines[top.line] = f'part {name} {way}'
            told = house.with_ways(ways)
            self.assertEqual(told.text, '\n'.join(lines))
            self.assertEqual((told, told.plan.ways, told.plan.takes), (House('\n'.join(lines)), ways, house.plan.takes))
            self.assertEqual(house.text, text)
            self.assertEqual(told.with_ways(house.plan.ways), house)

    def test_parts_called_like_ways(self):
        text = 'key once 2\npart once once\n  read once\n  ask kept\npart kept fresh\n  read once'
        told = House(text).with_ways(('handed', 'kept'))
        self.assertEqual(told.text, 'key once 2\npart once handed\n  read once\n  ask kept\npart kept kept\n  read once')

    def test_bad_ways(self):
        house = House(WHOLE)
        wrong = [
            (), ('once',), ('once', 'once', 'once'), ['once', 'once'], ('once', 'all'), ('once', None), (None, 'once'), ('once', ''),
            ('Once', 'once'), ('once', 'takes'), 'once', ('once', ('once',)), ('once', ['once']), ('once', 'once '), ('once', 'fresh takes'),
            {'front': 'once'}, ('once', 0), ('once', True),
        ]
        for value in strange_values() + wrong:
            raises(self, BadWays, value, house.with_ways, value)


if __name__ == '__main__':
    unittest.main()
