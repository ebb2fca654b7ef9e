import random
import unittest

from samples import LONG_TEXT, all_views, is_so, raises, random_makings, sheet_text, strange_values

from settledreads.errors import OtherSheet
from settledreads.sheets import Sheet
from settledreads.views import Draft, View


def wanted(rule, held):
    """What a rule says of worths that are told by a dict."""
    if any([is_so(lit, held) for lit in rule if lit[0] in held]):
        return True
    return False if all([lit[0] in held for lit in rule]) else None


class RuleTest(unittest.TestCase):
    def test_true_false_and_none(self):
        sheet = Sheet('key a 2\nkey b 3\nrule a = 1 or b != 2')
        rule = sheet.rules[0]
        told = {
            (): None,
            (('a', 1),): True,
            (('a', 0),): None,
            (('b', 2),): None,
            (('b', 1),): True,
            (('a', 0), ('b', 2)): False,
            (('a', 1), ('b', 2)): True,
            (('a', 0), ('b', 0)): True,
        }
        for pairs, worth in told.items():
            self.assertIs(rule(View(sheet, pairs)), worth)
            self.assertIs(rule(view=View(sheet, pairs)), worth)

    def test_only_its_own_keys_count(self):
        sheet = Sheet('key a 2\nkey b 2\nrule b = 1')
        self.assertIs(sheet.rules[0](View(sheet, (('b', 0),))), False)
        self.assertIs(sheet.rules[0](View(sheet, (('a', 0),))), None)

    def test_all_views_of_many_sheets(self):
        source = random.Random(5)
        for _ in range(60):
            keys, rules = random_makings(source)
            sheet = Sheet(sheet_text(keys, rules))
            for view, held in all_views(sheet):
                self.assertEqual([rule(view) for rule in sheet.rules], [wanted(rule, held) for rule in rules])

    def test_views_of_an_equal_sheet(self):
        sheet = Sheet(LONG_TEXT)
        for (mine, _), (theirs, _) in zip(all_views(sheet), all_views(Sheet(LONG_TEXT))):
            self.assertEqual([rule(mine) for rule in sheet.rules], [rule(theirs) for rule in sheet.rules])

    def test_text(self):
        sheet = Sheet(LONG_TEXT)
        self.assertEqual([rule.text for rule in sheet.rules], ['c != 2 or a = 1', 'b = 0 or a = 0', 'b = 0 or a = 1'])

    def test_other_sheet(self):
        sheet = Sheet('key a 2\nrule a = 0')
        alike = Sheet('key a 2\nrule a != 1')
        others = [View(alike, (('a', 0),)), View(alike, ()), Draft(View.whole(sheet, (0,))), sheet, (('a', 0),), (0,)]
        for value in others + strange_values():
            raises(self, OtherSheet, value, sheet.rules[0], value)


if __name__ == '__main__':
    unittest.main()
