"""The names, files, arguments and bodies that the document's interface lists."""

import inspect
import unittest

from samples import SHEET_TEXT

from settledreads import errors, plans, sheets, views

PROPERTIES = {
    sheets.Sheet: ('text', 'names', 'sizes', 'rules', 'editions'),
    views.View: ('sheet', 'pairs', 'worths', 'is_whole', 'is_lawful'),
    views.Draft: ('view', 'broken'),
    plans.Plan: ('text', 'parts', 'ways', 'takes'),
}
METHODS = {
    sheets.Sheet: ('__init__', '__eq__'),
    views.View: (
        '__init__', 'whole', 'is_within', '__getitem__', '__contains__', '__len__', '__iter__', '__eq__', '__or__', '__and__',
        '__sub__',
    ),
    views.Draft: ('__init__', '__getitem__', '__contains__', '__setitem__', '__ior__'),
    plans.Plan: ('__init__', '__eq__'),
}


def arguments(call):
    return [name for name in inspect.signature(call).parameters if name != 'self']


class InterfaceTest(unittest.TestCase):
    def test_files(self):
        for place, kinds in ((sheets, ['Sheet']), (views, ['View', 'Draft']), (plans, ['Plan'])):
            for name in kinds:
                self.assertEqual(getattr(place, name).__module__, place.__name__)
        self.assertEqual(errors.BadText.__module__, 'settledreads.errors')

    def test_bodies(self):
        for kind, names in PROPERTIES.items():
            for name in names:
                self.assertIsInstance(vars(kind)[name], property)
        for kind, names in METHODS.items():
            for name in names:
                self.assertIn(name, vars(kind))
        self.assertIsInstance(vars(views.View)['whole'], staticmethod)

    def test_arguments(self):
        self.assertEqual(arguments(sheets.Sheet), ['text'])
        self.assertEqual(arguments(views.View), ['sheet', 'pairs'])
        self.assertEqual(arguments(views.View.whole), ['sheet', 'worths'])
        self.assertEqual(arguments(views.View.is_within), ['other'])
        self.assertEqual(arguments(views.Draft), ['edition'])
        self.assertEqual(arguments(plans.Plan), ['text'])
        self.assertEqual(arguments(errors.BadText), ['value'])

    def test_rules(self):
        rule = sheets.Sheet(SHEET_TEXT).rules[0]
        self.assertIn('__call__', vars(rule.__class__))
        self.assertIsInstance(vars(rule.__class__)['text'], property)
        self.assertEqual(arguments(rule), ['view'])


if __name__ == '__main__':
    unittest.main()
