"""The worked examples of sections 4 to 13, as they stand in the document, each going on from those ahead."""

import doctest
import pathlib
import unittest

EXAMPLE = '''
>>> from settledreads.sheets import Sheet
>>> from settledreads.views import Draft, View
>>> sheet_text = 'key mode 2\\nkey size 3\\nrule mode = 0 or size != 2'
>>> sheet = Sheet(sheet_text)
>>> sheet.editions
((0, 0), (0, 1), (0, 2), (1, 0), (1, 1))
>>> view = View(sheet, (('mode', 1),))
>>> [view['mode'], 'size' in view, view.worths, view.is_lawful, sheet.rules[0](view)]
[1, False, (1, None), True, None]
>>> both = view | View(sheet, (('size', 2),))
>>> [both.is_whole, both.is_lawful, sheet.rules[0](both), view.is_within(both), (both - view).pairs]
[True, False, False, True, (('size', 2),)]
>>> draft = Draft(View.whole(sheet, (1, 1)))
>>> draft['size'] = 2
>>> [draft['size'], draft.broken, draft.view == both]
[2, (0,), True]
>>> from settledreads.plans import Plan
>>> from settledreads.stories import alike_all, keeps_all, reads_of
>>> plan = Plan('part shop once\\npart till handed')
>>> mixed = Plan('part shop once\\npart till fresh')
>>> story = (('begin', 'shop'), ('read',), ('install',), ('ask', 'till'), ('read',))
>>> [reads_of(plan, (), story), reads_of(mixed, (), story)]
[(('shop', 0), ('till', 0)), (('shop', 0), ('till', 1))]
>>> [keeps_all(plan, 'shop', 'one')[0], keeps_all(mixed, 'shop', 'one')[0], len(keeps_all(mixed, 'shop', 'one')[2])]
['always', 'breaks', 5]
>>> [len(alike_all(plan, mixed)[2]), keeps_all(Plan('part till kept'), 'till', 'begun')[2]]
[3, (('begin', 'till'), ('read',))]
>>> from settledreads.houses import House
>>> house_text = sheet_text + '\\npart shop once\\n  if mode = 1\\n    ask till\\n  read size\\npart till handed\\n  read size'
>>> house = House(house_text)
>>> [house.sheet == sheet, house.plan.ways, house.first_line('shop'), house.first_line('till')]
[True, ('once', 'handed'), 4, 8]
>>> loose = house.with_ways(('once', 'fresh'))
>>> from settledreads.running import kept_manners, ran
>>> from settledreads.seeing import sees
>>> run = (((1, 0),), (), (('step', 0), ('step', 0), ('install', (0, 2)), ('step', 0)))
>>> [ran(loose, 'shop', run), kept_manners(loose, 'shop', run)]
[((('mode', 1, 0), ('size', 2, 1)), (6,)), ('each', 'forward')]
>>> [sees(loose, 'shop', 'one')[0], len(sees(loose, 'shop', 'one')[1][2]), sees(house, 'shop', 'one')[0]]
['breaks', 4, 'always']
>>> [len(sees(house, 'shop', 'one')[1]), sees(house, 'shop', 'one')[1][0]]
[10, (((4, 0, -1),), ((-1, -1),), (), -1)]
>>> from settledreads.alike import alike
>>> [alike(house, 'shop', ('once', 'once'))[0], len(alike(house, 'shop', ('once', 'once'))[1][2]), alike(house, 'till', ('kept', 'once'))[0]]
['apart', 4, 'alike']
>>> settled = House('key mode 2\\nrule mode = 0\\npart shop fresh\\n  read mode\\n  read mode')
>>> [alike(settled, 'shop', ('once',))[0], sees(settled, 'shop', 'one')[0]]
['alike', 'breaks']
>>> from settledreads.choosing import cheapest_ways
>>> told = cheapest_ways(loose, ('shop',), 'one', (('till', 'handed', 2), ('till', 'once', 1)))
>>> [told[:3], len(told[3][0]), [row[:2] for row in told[4]]]
[('choice', 2, (('till', 'handed', 2),)), 10, [((), 'shop'), ((('till', 'once', 1),), 'shop')]]
>>> from settledreads.anew import anew
>>> desks = House('key x 2\\nkey y 2\\npart front fresh\\n  ask left\\n  ask right\\npart left kept\\n  read x\\npart right kept\\n  read y')
>>> older = (((0, 0), (1, 1)), (0, 0))
>>> [anew(desks, ('front',), older[0], older[1], manner, (1, 1))[:2] for manner in ('one', 'present')]
[(0, ()), (2, ('left', 'right'))]
>>> direct = House(desks.text.replace('fresh\\n', 'fresh\\n  read x\\n'))
>>> [anew(direct, ('front',), older[0], older[1], 'one', (1, 1))[:2], len(anew(direct, ('front',), older[0], older[1], 'one', (1, 1))[3])]
[(2, ('left', 'right')), 3]
>>> from settledreads.changing import changeover, ends_well, mix
>>> counter = House('key x 2\\nkey y 2\\npart front once\\n  read y\\n  ask left\\npart left kept\\n  read x')
>>> mix(counter, ('front',), (0, 0), (1, 1), 'one', (('install',), ('renew', 'left')))
('front', 1, (('step', 0), ('step', 0), ('step', 0)))
>>> changeover(counter, ('front',), (0, 0), (1, 1), 'one', ((1,), (1,), 1))
(3, (('close', 'front'), ('install',), ('wait',), ('renew', 'left'), ('open', 'front')))
>>> [changeover(counter, ('front',), (0, 0), (1, 1), 'each', ((1,), (1,), 1)), ends_well(counter, ('front',), (0, 0), (0, 1), (('install',),))]
[(1, (('install',), ('renew', 'left'))), True]
>>> from settledreads.keepers import Keeper
>>> keeper = Keeper(counter, View.whole(counter.sheet, (0, 0)))
>>> [keeper.begin('front'), keeper.step(0), keeper.install(View.whole(counter.sheet, (1, 1))), keeper['x'], keeper.renew('left')]
[0, ('y', 0), 1, 1, None]
>>> [keeper.step(0), keeper.step(0), keeper.reads(0), keeper.manners(0), keeper.places(0)]
[None, ('x', 1), (('y', 0, 0), ('x', 1, 1)), ('each', 'forward', 'lawful'), ()]
>>> reading = keeper.reading('front')
>>> [reading.read('y'), 'y' in reading, 'x' in reading, reading.ask('left').read('x'), reading.close()]
[1, True, False, 1, None]
'''


class ExampleTest(unittest.TestCase):
    def test_line_by_line(self):
        example = doctest.DocTestParser().get_doctest(EXAMPLE, {}, 'sections 4 to 13', None, 0)
        told = []
        outcome = doctest.DocTestRunner().run(example, out=told.append)
        self.assertEqual(''.join(told), '')
        self.assertEqual((outcome.failed, outcome.attempted), (0, 55))

    def test_what_the_readme_shows(self):
        text = (pathlib.Path(__file__).resolve().parent.parent / 'README.md').read_text()
        blocks = [block for block in text.split('```') if block.startswith('\n>>>')]
        example = doctest.DocTestParser().get_doctest(''.join(blocks), {}, 'README', None, 0)
        told = []
        outcome = doctest.DocTestRunner().run(example, out=told.append)
        self.assertEqual((''.join(told), outcome.failed, outcome.attempted > 20), ('', 0, True))

    def test_a_view_may_be_unlawful_though_no_rule_is_false(self):
        from settledreads.sheets import Sheet
        from settledreads.views import View
        sheet = Sheet('key a 2\nkey b 2\nrule a = 0 or b = 0\nrule a = 0 or b = 1')
        view = View(sheet, (('a', 1),))
        self.assertEqual([rule(view) for rule in sheet.rules], [None, None])
        self.assertIs(view.is_lawful, False)

    def test_two_plans_part_sooner_by_a_work_that_begins_with_till(self):
        from settledreads.plans import Plan
        from settledreads.stories import alike_all
        told = alike_all(Plan('part shop once\npart till handed'), Plan('part shop once\npart till fresh'))
        self.assertEqual(told, ('apart', (), (('begin', 'till'), ('install',), ('read',))))

    def test_mode_and_size_of_unlike_editions_are_not_lawful(self):
        from settledreads.houses import House
        from settledreads.seeing import sees
        text = 'key mode 2\nkey size 3\nrule mode = 0 or size != 2\npart shop once\n  if mode = 1\n    ask till\n  read size\n'
        house = House(text + 'part till fresh\n  read size')
        self.assertEqual([sees(house, 'shop', manner)[0] for manner in ('each', 'lawful')], ['always', 'breaks'])


if __name__ == '__main__':
    unittest.main()
