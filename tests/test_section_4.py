"""The worked example of section 4, as it stands in the document."""

import doctest
import unittest

EXAMPLE = '''
>>> from settledreads.sheets import Sheet
>>> from settledreads.views import Draft, View
>>> sheet_text = 'key mode 2\\nkey size 3\\nrule mode = 0 or size != 2'
>>> sheet = Sheet(sheet_text)
>>> sheet.editions
((0, 0), (0, 1), (0, 2), (1, 0), (1, 1))
>>> view = View(sheet, (('mode', 1),))
>>> [view['mode'], 'size' in view, view.worths, view.is_lawful, sheet.rules[0](view)]
[1, False, (1, None), True, None]
>>> both = view | View(sheet, (('size', 2),))
>>> [both.is_whole, both.is_lawful, sheet.rules[0](both), view.is_within(both), (both - view).pairs]
[True, False, False, True, (('size', 2),)]
>>> draft = Draft(View.whole(sheet, (1, 1)))
>>> draft['size'] = 2
>>> [draft['size'], draft.broken, draft.view == both]
[2, (0,), True]
'''


class ExampleTest(unittest.TestCase):
    def test_line_by_line(self):
        example = doctest.DocTestParser().get_doctest(EXAMPLE, {}, 'section 4', None, 0)
        told = []
        outcome = doctest.DocTestRunner().run(example, out=told.append)
        self.assertEqual(''.join(told), '')
        self.assertEqual((outcome.failed, outcome.attempted), (0, 12))

    def test_a_view_may_be_unlawful_though_no_rule_is_false(self):
        from settledreads.sheets import Sheet
        from settledreads.views import View
        sheet = Sheet('key a 2\nkey b 2\nrule a = 0 or b = 0\nrule a = 0 or b = 1')
        view = View(sheet, (('a', 1),))
        self.assertEqual([rule(view) for rule in sheet.rules], [None, None])
        self.assertIs(view.is_lawful, False)


if __name__ == '__main__':
    unittest.main()
