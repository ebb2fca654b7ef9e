import unittest

from samples import LONG_TEXT, SHEET_TEXT, all_views, raises, strange_values

from settledreads.errors import BadEdition, BadWorth, NoKey, OtherSheet
from settledreads.sheets import Sheet
from settledreads.views import Draft, View


def joined_in_place(draft, value):
    draft |= value
    return draft


def put(draft, key, worth):
    draft[key] = worth


class MadeTest(unittest.TestCase):
    def test_of_each_view(self):
        for text in (SHEET_TEXT, LONG_TEXT):
            sheet = Sheet(text)
            for view, held in all_views(sheet):
                if view.worths in sheet.editions:
                    self.check(Draft(view), view, held)
                    self.check(Draft(edition=view), view, held)
                else:
                    raises(self, BadEdition, view, Draft, view)

    def check(self, draft, view, held):
        self.assertTrue(draft.view == view)
        self.assertIs(draft.view.__class__, View)
        self.assertIs(draft.view.sheet, view.sheet)
        self.assertEqual(draft.broken, ())
        self.assertEqual({name: draft[name] for name in held}, held)

    def test_other_kinds(self):
        sheet = Sheet(SHEET_TEXT)
        values = [View(sheet, (('mode', 0),)), View.whole(sheet, (1, 2)), Draft(View.whole(sheet, (0, 0))), (0, 0), sheet]
        for value in values:
            raises(self, BadEdition, value, Draft, value)
        for value in strange_values():
            if not isinstance(value, View):
                raises(self, BadEdition, value, Draft, value)

    def test_equal_to_itself_alone(self):
        sheet = Sheet(SHEET_TEXT)
        view = View.whole(sheet, (0, 0))
        draft = Draft(view)
        self.assertIs(draft == draft, True)
        for value in [Draft(view), view, (0, 0), *strange_values()]:
            self.assertIs(draft == value, False)
            self.assertIs(value == draft, False)
            self.assertIs(draft != value, True)


class ChangedTest(unittest.TestCase):
    def setUp(self):
        self.sheet = Sheet(LONG_TEXT)
        self.edition = View.whole(self.sheet, (2, 1, 0))
        self.draft = Draft(self.edition)

    def test_each_worth_of_each_key(self):
        for view, held in all_views(self.sheet):
            if not view.is_whole:
                continue
            for name, worth in held.items():
                self.draft[name] = worth
                self.assertEqual(self.draft[name], worth)
            self.assertTrue(self.draft.view == view)
            self.assertEqual(self.draft.broken, tuple([n for n in range(3) if self.sheet.rules[n](view) is False]))
        self.assertEqual(self.edition.worths, (2, 1, 0))

    def test_one_key_alone_is_changed(self):
        self.draft['c'] = 1
        self.assertEqual(self.draft.view.worths, (1, 1, 0))
        self.draft['b'] = 1
        self.assertEqual((self.draft.view.worths, self.draft.broken), ((1, 1, 1), (1,)))
        self.draft['a'] = 0
        self.draft['c'] = 2
        self.assertEqual((self.draft.view.worths, self.draft.broken), ((2, 0, 1), (0, 2)))

    def test_a_view_that_was_told_stays(self):
        view = self.draft.view
        self.draft['c'] = 0
        self.draft |= View(self.sheet, (('b', 1),))
        self.assertEqual((view.worths, self.edition.worths), ((2, 1, 0), (2, 1, 0)))

    def test_reading(self):
        self.assertEqual([self.draft[name] for name in ('a', 'b', 'c')], [1, 0, 2])
        self.assertEqual([name in self.draft for name in ('a', 'b', 'c')], [True, True, True])
        for value in ['d', 'A', 'ab', 2, *strange_values()]:
            raises(self, NoKey, value, lambda key: self.draft[key], value)
            self.assertIs(value in self.draft, False)
        with self.assertRaises(KeyError):
            self.draft['d']

    def test_setting_what_is_no_key(self):
        for key in ['d', 'A', '', *strange_values()]:
            for worth in (0, 1, 7, None, True):
                raises(self, NoKey, key, put, self.draft, key, worth)
        self.assertTrue(self.draft.view == self.edition)

    def test_setting_what_is_no_worth(self):
        for worth in [-1, 3, 2, True, False, None, '0', (0,), [1], {}, 1.0, 10 ** 30, self.edition, self.draft]:
            raises(self, BadWorth, worth, put, self.draft, 'a', worth)
        for worth in strange_values():
            if worth.__class__ != int or worth not in (0, 1):
                raises(self, BadWorth, worth, put, self.draft, 'b', worth)
        raises(self, BadWorth, 3, put, self.draft, 'c', 3)
        self.assertTrue(self.draft.view == self.edition)
        self.assertEqual(self.draft.broken, ())

    def test_taking_a_view(self):
        for view, held in all_views(Sheet(LONG_TEXT)):
            draft = Draft(self.edition)
            same = draft
            draft |= view
            self.assertIs(draft, same)
            self.assertEqual(dict(draft.view.pairs), {**dict(self.edition.pairs), **held})
            self.assertEqual(draft.broken, tuple([n for n in range(3) if self.sheet.rules[n](draft.view) is False]))
            self.assertIs(draft.view.sheet, self.sheet)
            self.assertEqual(dict(view.pairs), held)
        self.assertEqual(self.edition.worths, (2, 1, 0))

    def test_taking_what_is_no_view_of_the_sheet(self):
        other = Sheet(LONG_TEXT.replace('c != 2', 'c = 0'))
        values = [View(other, ()), View(other, (('a', 0),)), Draft(self.edition), self.draft, (('a', 0),), {'a': 0}, self.sheet]
        self.draft['b'] = 1
        for value in values + strange_values():
            raises(self, OtherSheet, value, joined_in_place, self.draft, value)
        self.assertEqual((self.draft.view.worths, self.draft.broken), ((2, 1, 1), (1,)))
        self.assertEqual(self.edition.worths, (2, 1, 0))

    def test_drafts_of_one_view_are_apart(self):
        other = Draft(self.edition)
        self.draft['c'] = 0
        self.assertEqual((self.draft['c'], other['c']), (0, 2))

    def test_draft_of_a_changed_draft(self):
        self.draft['b'] = 1
        raises(self, BadEdition, self.draft.view, Draft, self.draft.view)
        self.draft['b'] = 0
        self.draft['c'] = 0
        self.assertEqual(Draft(self.draft.view).view.worths, (0, 1, 0))


if __name__ == '__main__':
    unittest.main()
