import random
import unittest

from samples import LONG_TEXT, SHEET_TEXT, all_views, raises, random_makings, sheet_text, strange_values

from settledreads.errors import BadPairs, Missing, NoKey, OtherSheet, Parted
from settledreads.plans import Plan
from settledreads.sheets import Sheet
from settledreads.views import Draft, View


def pairs_of(held):
    return tuple(sorted(held.items()))


def sheets():
    """The sheet of the document, one with keys out of sequence, and some others."""
    source = random.Random(6)
    return [Sheet(SHEET_TEXT), Sheet(LONG_TEXT)] + [Sheet(sheet_text(*random_makings(source))) for _ in range(10)]


class PropertiesTest(unittest.TestCase):
    def test_all_views(self):
        for sheet in sheets():
            for view, held in all_views(sheet):
                self.check(sheet, view, held)

    def check(self, sheet, view, held):
        self.assertIs(view.sheet, sheet)
        self.assertEqual(view.pairs, pairs_of(held))
        self.assertEqual(view.worths, tuple([held.get(name) for name in sheet.names]))
        self.assertIs(view.is_whole, len(held) == len(sheet.names))
        editions = [dict(zip(sheet.names, edition)) for edition in sheet.editions]
        self.assertIs(view.is_lawful, any([held.items() <= edition.items() for edition in editions]))
        self.assertEqual(len(view), len(held))
        self.assertEqual(list(view), [name for name in sheet.names if name in held])
        self.assertEqual({name: view[name] for name in view}, held)
        for name in sheet.names:
            self.assertIs(name in view, name in held)

    def test_iteration_is_in_the_sequence_of_the_sheet(self):
        view = View(Sheet(LONG_TEXT), (('a', 1), ('b', 0), ('c', 2)))
        self.assertEqual((list(view), view.worths), (['c', 'a', 'b'], (2, 1, 0)))

    def test_views_without_worths(self):
        view = View(Sheet(LONG_TEXT), ())
        self.assertEqual((len(view), list(view), view.pairs, view.worths), (0, [], (), (None, None, None)))
        self.assertEqual((view.is_whole, view.is_lawful), (False, True))

    def test_unlawful_though_no_rule_is_false(self):
        sheet = Sheet(LONG_TEXT)
        view = View(sheet, (('b', 1),))
        self.assertEqual([rule(view) for rule in sheet.rules], [None, None, None])
        self.assertIs(view.is_lawful, False)

    def test_whole(self):
        for sheet in sheets():
            for view, held in all_views(sheet):
                if len(held) == len(sheet.names):
                    whole = View.whole(sheet, tuple([held[name] for name in sheet.names]))
                    self.assertTrue(whole == view)
                    self.check(sheet, whole, held)
        self.assertEqual(View.whole(sheet=Sheet(LONG_TEXT), worths=(2, 1, 0)).pairs, (('a', 1), ('b', 0), ('c', 2)))

    def test_arguments_by_name(self):
        sheet = Sheet(SHEET_TEXT)
        self.assertEqual(View(sheet=sheet, pairs=(('size', 2),)).worths, (None, 2))
        self.assertIs(View(sheet, ()).is_within(other=View(sheet, ())), True)

    def test_properties_cannot_be_set(self):
        view = View(Sheet(SHEET_TEXT), ())
        for name in ('sheet', 'pairs', 'worths', 'is_whole', 'is_lawful'):
            with self.assertRaises(AttributeError):
                setattr(view, name, 1)


class BadPairsTest(unittest.TestCase):
    def test_wrong_pairs(self):
        sheet = Sheet('key b 2\nkey a 3')
        for pairs in (
            [], [('a', 0)], (('b', 0), ('a', 0)), (('a', 0), ('a', 0)), (('a', 0), ('a', 1)), (('a', True),), (('a', False),),
            (('a', 3),), (('b', 2),), (('a', -1),), (('a', None),), (('a', '0'),), (('a', (0,)),), (('a', [0]),), (('a', {}),),
            (('c', 0),), (('', 0),), (('A', 0),), ((0, 'a'),), ((None, 0),), ((['a'], 0),), (({}, 0),), ((('a', 0), 0),),
            (('a',),), (('a', 0, 0),), ((),), (['a', 0],), ('a0',), ('a', 0), (('a', 0), None), (('a', 0), ('b', 0), ('c', 0)),
            (('a', 0), ('b', 0), ('b', 1)), (('a', 0), ['b', 0]), (('a', 10 ** 30),), (b'a0',), ((b'a', 0),), {'a': 0},
            (('a', 0), ('b', 2)), (('a', 1.0),), None, 'a', 0, sheet, View(sheet, ()), (View(sheet, ()),),
            ((View(sheet, ()), 0),), (('a', View(sheet, ())),), ((sheet, 0),),
        ):
            raises(self, BadPairs, pairs, View, sheet, pairs)
            raises(self, BadPairs, pairs, View, pairs=pairs, sheet=sheet)

    def test_wrong_worths(self):
        sheet = Sheet('key b 2\nkey a 3')
        for worths in (
            (), (0,), (0, 0, 0), [0, 0], (0, 3), (2, 0), (-1, 0), (0, True), (False, 0), (0, None), (None, None), ('0', 0),
            (('b', 0), ('a', 0)), (0, (0,)), ([], 0), '00', b'00', None, 0, {0: 0, 1: 0}, (0, 1.0), View.whole(sheet, (0, 0)),
            (View(sheet, ()), 0),
        ):
            raises(self, BadPairs, worths, View.whole, sheet, worths)

    def test_other_kinds(self):
        sheet = Sheet('key q 2')
        for value in strange_values():
            if value != ():
                raises(self, BadPairs, value, View, sheet, value)
            if value != (0,):
                raises(self, BadPairs, value, View.whole, sheet, value)


class KeyTest(unittest.TestCase):
    def setUp(self):
        self.sheet = Sheet(SHEET_TEXT)
        self.view = View(self.sheet, (('size', 2),))

    def test_a_key_that_it_has(self):
        self.assertEqual(self.view['size'], 2)
        self.assertIs('size' in self.view, True)

    def test_no_key(self):
        values = ['mode', 'Size', 'siz', 'si', 'size ', 'sizes', 2, ('size', 2), ['size'], {'size': 2}, self.view, self.sheet]
        for value in values + strange_values():
            raises(self, NoKey, value, lambda key: self.view[key], value)
            self.assertIs(value in self.view, False)

    def test_caught_as_key_error(self):
        for kind in (KeyError, Missing, NoKey):
            with self.assertRaises(kind) as caught:
                self.view['mode']
            self.assertEqual(caught.exception.value, 'mode')


class EqualTest(unittest.TestCase):
    def test_by_sheet_and_pairs(self):
        for text in (SHEET_TEXT, LONG_TEXT):
            for one, mine in all_views(Sheet(text)):
                for other, theirs in all_views(Sheet(text)):
                    self.assertIs(one == other, mine == theirs)
                    self.assertIs(one != other, mine != theirs)

    def test_unlike_sheets(self):
        self.assertFalse(View(Sheet('key a 2'), (('a', 0),)) == View(Sheet('key a 3'), (('a', 0),)))
        self.assertFalse(View(Sheet('key a 2'), ()) == View(Sheet('key a 3'), ()))

    def test_nothing_else(self):
        sheet = Sheet('key a 2')
        view = View.whole(sheet, (0,))
        for value in strange_values() + [view.pairs, view.worths, sheet, Draft(view), {'a': 0}, Plan('part a fresh')]:
            self.assertIs(view == value, False)
            self.assertIs(value == view, False)
            self.assertIs(view != value, True)


class JoiningTest(unittest.TestCase):
    def test_all_pairs_of_views(self):
        for text in (SHEET_TEXT, LONG_TEXT):
            sheet = Sheet(text)
            for one, mine in all_views(sheet):
                for other, theirs in all_views(Sheet(text)):
                    self.check(sheet, one, mine, other, theirs)

    def check(self, sheet, one, mine, other, theirs):
        ahead = (one.pairs, other.pairs)
        self.assertIs(one.is_within(other), mine.items() <= theirs.items())
        meets = one & other
        self.assertEqual(meets.pairs, pairs_of(dict(mine.items() & theirs.items())))
        rest = one - other
        self.assertEqual(rest.pairs, pairs_of({name: worth for name, worth in mine.items() if name not in theirs}))
        unlike = [name for name in sheet.names if name in mine and name in theirs and mine[name] != theirs[name]]
        if unlike:
            raises(self, Parted, unlike[0], lambda: one | other)
        else:
            both = one | other
            self.assertEqual(both.pairs, pairs_of({**mine, **theirs}))
            self.assertTrue(both == other | one)
            self.assertIs(both.sheet, sheet)
        for told in (meets, rest):
            self.assertIs(told.__class__, View)
            self.assertIs(told.sheet, sheet)
        self.assertEqual((one.pairs, other.pairs), ahead)

    def test_the_first_key_of_the_sheet_is_told(self):
        sheet = Sheet(LONG_TEXT)
        raises(self, Parted, 'c', lambda: View.whole(sheet, (0, 0, 0)) | View.whole(sheet, (1, 1, 1)))
        raises(self, Parted, 'a', lambda: View.whole(sheet, (1, 0, 0)) | View.whole(sheet, (1, 1, 1)))

    def test_joined_views_may_be_unlawful(self):
        sheet = Sheet(SHEET_TEXT)
        both = View(sheet, (('mode', 1),)) | View(sheet, (('size', 2),))
        self.assertEqual((both.is_whole, both.is_lawful), (True, False))

    def test_in_place_signs_make_another_view(self):
        sheet = Sheet(SHEET_TEXT)
        view = View(sheet, (('mode', 1),))
        other = view
        other |= View(sheet, (('size', 2),))
        self.assertEqual((view.pairs, other.pairs), ((('mode', 1),), (('mode', 1), ('size', 2))))

    def test_other_sheet(self):
        sheet = Sheet('key a 2')
        view = View(sheet, (('a', 0),))
        others = [
            View(Sheet('key a 3'), (('a', 0),)), View(Sheet('key a 3'), (('a', 1),)), View(Sheet('key a 3'), ()), Draft(view),
            sheet, view.pairs, view.worths, {'a': 0},
        ]
        for value in others + strange_values():
            raises(self, OtherSheet, value, view.is_within, value)
            raises(self, OtherSheet, value, lambda other: view | other, value)
            raises(self, OtherSheet, value, lambda other: view & other, value)
            raises(self, OtherSheet, value, lambda other: view - other, value)
            self.assertEqual(view.pairs, (('a', 0),))


if __name__ == '__main__':
    unittest.main()
