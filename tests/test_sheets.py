import random
import unittest

from samples import SHEET_TEXT, editions_of, no_strings, raises, random_makings, rule_text, sheet_text, strange_values

from settledreads.errors import BadText
from settledreads.sheets import Sheet


class ReadTest(unittest.TestCase):
    def check(self, keys, rules):
        text = sheet_text(keys, rules)
        sheet = Sheet(text)
        self.assertEqual(sheet.text, text)
        self.assertEqual(sheet.names, tuple([name for name, _ in keys]))
        self.assertEqual(sheet.sizes, tuple([size for _, size in keys]))
        self.assertEqual(tuple([rule.text for rule in sheet.rules]), tuple([rule_text(rule) for rule in rules]))
        self.assertEqual(sheet.editions, editions_of(keys, rules))
        self.assertEqual(list(sheet.editions), sorted(set(sheet.editions)))

    def test_keys_of_all_numbers_and_sizes(self):
        for first in (2, 3):
            self.check([('a', first)], [])
            for second in (2, 3):
                self.check([('b', first), ('a', second)], [])
                for third in (2, 3):
                    self.check([('b', first), ('a', second), ('c', third)], [])

    def test_each_lit(self):
        for sign in ('=', '!='):
            for worth in range(3):
                self.check([('a', 2), ('b', 3)], [[('b', sign, worth)]])

    def test_rules_of_all_numbers(self):
        keys = [('x', 3), ('y', 2), ('z', 3)]
        rules = [
            [('x', '=', 0), ('y', '!=', 1), ('z', '=', 2)],
            [('z', '!=', 2), ('x', '!=', 0)],
            [('y', '=', 0)],
            [('x', '!=', 2), ('x', '=', 2), ('x', '=', 2)],
        ]
        for many in range(5):
            self.check(keys, rules[:many])

    def test_sheets_of_many_kinds(self):
        source = random.Random(4)
        makings = [random_makings(source) for _ in range(300)]
        self.assertEqual({len(rules) for _, rules in makings}, {0, 1, 2, 3, 4})
        self.assertEqual({len(rule) for _, rules in makings for rule in rules}, {1, 2, 3})
        for keys, rules in makings:
            self.check(keys, rules)

    def test_names_like_words(self):
        self.check([('key', 2), ('rule', 3), ('or', 2)], [[('or', '=', 0), ('or', '!=', 1), ('rule', '=', 2)], [('key', '=', 0)]])
        self.check([('rule', 2)], [[('rule', '=', 0)]])
        self.check([('abcdefgh', 2), ('z', 2)], [])

    def test_one_edition_may_be_left(self):
        sheet = Sheet('key a 2\nkey b 3\nrule a = 1\nrule b != 0\nrule b != 1')
        self.assertEqual(sheet.editions, ((1, 2),))

    def test_the_same_rule_twice(self):
        sheet = Sheet('key a 2\nrule a = 1\nrule a = 1')
        self.assertEqual([rule.text for rule in sheet.rules], ['a = 1', 'a = 1'])

    def test_argument_by_name(self):
        self.assertEqual(Sheet(text=SHEET_TEXT).names, ('mode', 'size'))

    def test_kinds_of_what_is_told(self):
        sheet = Sheet(SHEET_TEXT)
        for told in (sheet.names, sheet.sizes, sheet.rules, sheet.editions, sheet.editions[0]):
            self.assertIs(told.__class__, tuple)
        self.assertEqual({size.__class__ for size in sheet.sizes}, {int})
        self.assertEqual({worth.__class__ for edition in sheet.editions for worth in edition}, {int})


class EqualTest(unittest.TestCase):
    def test_equal_by_text(self):
        self.assertTrue(Sheet(SHEET_TEXT) == Sheet(SHEET_TEXT))
        self.assertFalse(Sheet(SHEET_TEXT) != Sheet(SHEET_TEXT))
        self.assertTrue(Sheet('key a 2') != Sheet('key a 3'))
        # The same keys and editions, by another text.
        self.assertFalse(Sheet('key a 2\nrule a = 0') == Sheet('key a 2\nrule a != 1'))
        self.assertFalse(Sheet('key a 2\nkey b 2') == Sheet('key b 2\nkey a 2'))

    def test_nothing_else_is_equal(self):
        sheet = Sheet('key q 2')
        for value in strange_values() + [sheet.text, (sheet.names, sheet.sizes)]:
            self.assertIs(sheet == value, False)
            self.assertIs(value == sheet, False)
            self.assertIs(sheet != value, True)

    def test_the_same_rules_each_time(self):
        sheet = Sheet('key a 2\nkey b 2\nrule a = 0 or b = 0\nrule a = 0 or b = 0')
        for first, second in zip(sheet.rules, sheet.rules):
            self.assertIs(first, second)
            self.assertTrue(first == second)
        self.assertEqual(len(sheet.rules), 2)

    def test_a_rule_equals_itself_alone(self):
        text = 'key a 2\nkey b 2\nrule a = 0 or b = 0\nrule a = 0 or b = 0'
        sheet = Sheet(text)
        rule = sheet.rules[0]
        others = [sheet.rules[1], Sheet(text).rules[0], rule.text, sheet, *strange_values()]
        for value in others:
            self.assertIs(rule == value, False)
            self.assertIs(rule != value, True)


class BadTextTest(unittest.TestCase):
    def check(self, number, text):
        raises(self, BadText, number, Sheet, text)

    def test_no_string(self):
        for value in no_strings():
            self.check(-1, value)
        self.check(-1, b'key a 2')
        self.check(-1, ['key a 2'])

    def test_no_key(self):
        for text in ('', '\n', 'rule a = 0', 'a 2', 'key', 'KEY a 2', 'keys a 2', 'part a fresh', '\nkey a 2'):
            self.check(0, text)

    def test_four_keys(self):
        self.check(3, 'key a 2\nkey b 2\nkey c 2\nkey d 2')
        self.check(3, 'key a 2\nkey b 2\nkey c 2\nkey d 2\nrule d = 0')

    def test_a_name_twice(self):
        self.check(1, 'key a 2\nkey a 3')
        self.check(2, 'key a 2\nkey b 3\nkey a 2')
        self.check(2, 'key a 2\nkey b 3\nkey b 3\nrule a = 0')

    def test_names(self):
        for name in ('abcdefghi', 'A', 'aB', 'a1', '1', 'a_', 'a-b', 'a\tb', '=', 'a.'):
            self.check(0, f'key {name} 2')
            self.check(1, f'key q 2\nkey {name} 3')

    def test_sizes(self):
        sizes = ('0', '1', '4', '02', '03', '+2', '-2', '2.0', 'two', 'a', '20', '22', '33', '2\t', '1000000002', '!')
        for size in sizes:
            self.check(0, f'key a {size}')
            self.check(1, f'key b 2\nkey a {size}\nrule b = 0')

    def test_words_of_a_key(self):
        for line in ('key a', 'key a ', 'key  2', 'key a 2 2', 'key 2', 'key 2 a', 'a key 2', 'key a 2 takes'):
            self.check(0, line)
            self.check(1, f'key b 2\n{line}')

    def test_a_rule_ahead_of_a_key(self):
        self.check(0, 'rule a = 0\nkey a 2')
        self.check(2, 'key a 2\nrule a = 0\nkey b 2')
        self.check(1, 'key a 2\nrule b = 0\nkey b 2')

    def test_five_rules(self):
        self.check(5, 'key a 2' + '\nrule a = 0' * 5)
        self.check(7, 'key a 2\nkey b 2\nkey c 2' + '\nrule a = 0' * 6)

    def test_lits(self):
        lit = 'a = 0'
        self.check(1, 'key a 2\nrule')
        self.check(1, 'key a 2\nrule ')
        self.check(1, 'key a 2\nrule ' + ' or '.join([lit] * 4))
        for rule in (
            'b = 0', 'a = 2', 'a != 2', 'a = 00', 'a = 01', 'a = -1', 'a = x', 'a = b', 'a = 1000000000', 'a =', 'a = ', ' = 0', 'a  0', 'a 0', '= 0',
            'a == 0', 'a <> 0', 'a ! 0', 'a < 1', 'a is 0', 'a=0', '0 = a', 'a = 0 or', 'or a = 0', 'a = 0 and a = 0',
            'a = 0 a = 0', 'a = 0 or or a = 0', 'a = 0 OR a = 0', 'a = 0 or a', 'a = 0 or a =', 'a = 0 or b = 0',
            'a = 0 or a = 2', 'a = 0 or a = 0 or c = 0', 'a = 0 or a = 0 and a = 0', 'A = 0', 'a = 0 or a = 0 or',
            'rule a = 0', 'a = 0 = 0', 'a or 0', 'a = or',
        ):
            self.check(1, f'key a 2\nrule {rule}')
            self.check(2, f'key a 2\nrule a = 0\nrule {rule}\nrule a = 0')

    def test_a_strange_word(self):
        for line in ('rules a = 0', 'Rule a = 0', 'a = 0', 'or a = 0', 'key', 'part a fresh', '0'):
            self.check(1, f'key a 2\n{line}')

    def test_each_worth_by_its_own_key(self):
        text = 'key a 3\nkey b 2\nrule b = 1 or a = 2'
        self.assertEqual(len(Sheet(text).editions), 4)
        self.check(2, text.replace('b = 1', 'b = 2'))
        self.check(2, text.replace('a = 2', 'a = 3'))

    def test_blanks(self):
        for line in (' key a 2', 'key a 2 ', 'key  a 2', 'key a  2', 'key\ta 2', 'key a\t2', '\tkey a 2', 'key a 2\t', ' ', '\t'):
            self.check(0, line)
            self.check(1, f'key b 2\n{line}')
        for line in (
            ' rule b = 0', 'rule b = 0 ', 'rule  b = 0', 'rule b  = 0', 'rule b =  0', 'rule b = 0  or b = 0', 'rule b = 0 or  b = 0',
            'rule\tb = 0', 'rule b\t= 0', 'rule b = 0\t', 'rule b = 0\tor b = 0', 'rule b = 0 or b\t=\t0', '  rule b = 0',
        ):
            self.check(1, f'key b 2\n{line}')

    def test_empty_lines(self):
        self.check(1, 'key a 2\n')
        self.check(1, 'key a 2\n\nkey b 2')
        self.check(2, 'key a 2\nkey b 2\n')
        self.check(2, 'key a 2\nrule a = 0\n')
        self.check(1, 'key a 2\n\nrule a = 0')
        self.check(4, 'key a 2\nkey b 2\nkey c 2\nrule a = 0\n')

    def test_deeper_lines(self):
        self.check(1, 'key a 2\n  key b 2')
        self.check(1, 'key a 2\n  rule a = 0')
        self.check(0, '  key a 2')

    def test_no_edition_is_left(self):
        self.check(2, 'key a 2\nrule a = 0\nrule a = 1')
        self.check(2, 'key a 2\nrule a = 0\nrule a != 0\nrule a = 0')
        self.check(4, 'key a 3\nrule a != 0\nrule a != 1\nrule a = 2 or a = 1\nrule a != 2')
        self.check(5, 'key a 2\nkey b 2\nrule a = 0 or b = 0\nrule a = 0 or b = 1\nrule a = 1 or b = 0\nrule a = 1 or b = 1')

    def test_the_first_line_is_told(self):
        self.check(1, 'key a 2\nrule b = 0\nkey 7\n')
        self.check(2, 'key a 2\nrule a = 0\nrule a = 1\nrule b = 0')
        self.check(1, 'key a 2\nrule a = 7\nrule a = 0\nrule a = 1')


if __name__ == '__main__':
    unittest.main()
