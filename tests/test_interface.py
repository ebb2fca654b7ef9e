"""The names, files, arguments and bodies that the document's interface lists."""

import inspect
import unittest

from samples import SHEET_TEXT

from settledreads import errors, houses, plans, running, seeing, sheets, stories, views

PROPERTIES = {
    sheets.Sheet: ('text', 'names', 'sizes', 'rules', 'editions'),
    views.View: ('sheet', 'pairs', 'worths', 'is_whole', 'is_lawful'),
    views.Draft: ('view', 'broken'),
    plans.Plan: ('text', 'parts', 'ways', 'takes'),
    houses.House: ('text', 'sheet', 'plan'),
}
METHODS = {
    sheets.Sheet: ('__init__', '__eq__'),
    views.View: (
        '__init__', 'whole', 'is_within', '__getitem__', '__contains__', '__len__', '__iter__', '__eq__', '__or__', '__and__',
        '__sub__',
    ),
    views.Draft: ('__init__', '__getitem__', '__contains__', '__setitem__', '__ior__'),
    plans.Plan: ('__init__', '__eq__'),
    houses.House: ('__init__', 'first_line', 'with_ways', '__eq__'),
}
FUNCTIONS = {
    stories.reads_of: ('plan', 'firsts', 'story'),
    stories.keeps_all: ('plan', 'part', 'manner'),
    stories.shows_keeps_all: ('plan', 'part', 'manner', 'value'),
    stories.alike_all: ('plan', 'other'),
    stories.shows_alike_all: ('plan', 'other', 'value'),
    running.ran: ('house', 'part', 'run'),
    running.kept_manners: ('house', 'part', 'run'),
    seeing.sees: ('house', 'part', 'manner'),
    seeing.shows_sees: ('house', 'part', 'manner', 'value'),
}


def arguments(call):
    return [name for name in inspect.signature(call).parameters if name != 'self']


class InterfaceTest(unittest.TestCase):
    def test_files(self):
        for place, kinds in (
            (sheets, ['Sheet']), (views, ['View', 'Draft']), (plans, ['Plan']), (houses, ['House']), (running, ['ran', 'kept_manners']),
            (stories, ['reads_of', 'keeps_all', 'shows_keeps_all', 'alike_all', 'shows_alike_all']), (seeing, ['sees', 'shows_sees']),
        ):
            for name in kinds:
                self.assertEqual(getattr(place, name).__module__, place.__name__)
        self.assertEqual(errors.BadText.__module__, 'settledreads.errors')

    def test_bodies(self):
        for kind, names in PROPERTIES.items():
            for name in names:
                self.assertIsInstance(vars(kind)[name], property)
        for kind, names in METHODS.items():
            for name in names:
                self.assertIn(name, vars(kind))
        self.assertIsInstance(vars(views.View)['whole'], staticmethod)

    def test_arguments(self):
        self.assertEqual(arguments(sheets.Sheet), ['text'])
        self.assertEqual(arguments(views.View), ['sheet', 'pairs'])
        self.assertEqual(arguments(views.View.whole), ['sheet', 'worths'])
        self.assertEqual(arguments(views.View.is_within), ['other'])
        self.assertEqual(arguments(views.Draft), ['edition'])
        self.assertEqual(arguments(plans.Plan), ['text'])
        self.assertEqual(arguments(houses.House), ['text'])
        self.assertEqual(arguments(houses.House.first_line), ['part'])
        self.assertEqual(arguments(houses.House.with_ways), ['ways'])
        self.assertEqual(arguments(errors.BadText), ['value'])
        for call, names in FUNCTIONS.items():
            self.assertEqual(tuple(arguments(call)), names)

    def test_rules(self):
        rule = sheets.Sheet(SHEET_TEXT).rules[0]
        self.assertIn('__call__', vars(rule.__class__))
        self.assertIsInstance(vars(rule.__class__)['text'], property)
        self.assertEqual(arguments(rule), ['view'])


if __name__ == '__main__':
    unittest.main()
