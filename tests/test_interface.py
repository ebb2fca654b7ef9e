"""The names, files, arguments and bodies that the document's interface lists; all arguments by name, in any sequence."""

import inspect
import itertools
import unittest

from samples import SHEET_TEXT
from test_journals import JOURNAL

from settledreads import alike, anew, changing, choosing, desk, errors, houses, journals, keepers, plans, readings, running, seeing, sheets, stories, views

PROPERTIES = {
    sheets.Sheet: ('text', 'names', 'sizes', 'rules', 'editions'),
    views.View: ('sheet', 'pairs', 'worths', 'is_whole', 'is_lawful'),
    views.Draft: ('view', 'broken'),
    plans.Plan: ('text', 'parts', 'ways', 'takes'),
    houses.House: ('text', 'sheet', 'plan'),
    keepers.Keeper: ('house', 'edition', 'editions', 'kept', 'works', 'manner', 'orders', 'journal'),
    readings.Reading: ('part', 'rows'),
    desk.Desk: ('keeper',),
}
METHODS = {
    sheets.Sheet: ('__init__', '__eq__'),
    views.View: (
        '__init__', 'whole', 'is_within', '__getitem__', '__contains__', '__len__', '__iter__', '__eq__', '__or__', '__and__',
        '__sub__',
    ),
    views.Draft: ('__init__', '__getitem__', '__contains__', '__setitem__', '__ior__'),
    plans.Plan: ('__init__', '__eq__'),
    houses.House: ('__init__', 'first_line', 'with_ways', '__eq__'),
    keepers.Keeper: (
        '__init__', '__getitem__', '__contains__', '__eq__', 'install', 'renew', 'begin', 'step', 'places', 'reads', 'manners', 'risk', 'shows_risk', 'anew',
        'reading', 'undo', 'redo', 'trial', 'tried', 'copy',
    ),
    readings.Reading: ('__contains__', '__enter__', '__exit__', 'read', 'take', 'ask', 'close'),
    desk.Desk: ('__init__', 'say'),
}
FUNCTIONS = {
    stories.reads_of: ('plan', 'firsts', 'story'),
    stories.keeps_all: ('plan', 'part', 'manner'),
    stories.shows_keeps_all: ('plan', 'part', 'manner', 'value'),
    stories.alike_all: ('plan', 'other'),
    stories.shows_alike_all: ('plan', 'other', 'value'),
    running.ran: ('house', 'part', 'run'),
    running.kept_manners: ('house', 'part', 'run'),
    seeing.sees: ('house', 'part', 'manner'),
    seeing.shows_sees: ('house', 'part', 'manner', 'value'),
    alike.alike: ('house', 'part', 'ways'),
    alike.shows_alike: ('house', 'part', 'ways', 'value'),
    choosing.cheapest_ways: ('house', 'parts', 'manner', 'offers'),
    choosing.shows_cheapest_ways: ('house', 'parts', 'manner', 'offers', 'value'),
    anew.anew: ('house', 'parts', 'editions', 'kept', 'manner', 'prices'),
    anew.shows_anew: ('house', 'parts', 'editions', 'kept', 'manner', 'prices', 'value'),
    changing.changeover: ('house', 'doors', 'old', 'new', 'manner', 'prices'),
    changing.mix: ('house', 'doors', 'old', 'new', 'manner', 'deeds'),
    changing.shows_mix: ('house', 'doors', 'old', 'new', 'manner', 'deeds', 'value'),
    changing.ends_well: ('house', 'doors', 'old', 'new', 'deeds'),
    journals.read_journal: ('text',),
    journals.recover: ('text',),
}
ARGUMENTS = {
    sheets.Sheet: ('text',), views.View: ('sheet', 'pairs'), views.View.whole: ('sheet', 'worths'), views.View.is_within: ('other',), views.Draft: ('edition',),
    plans.Plan: ('text',), houses.House: ('text',), houses.House.first_line: ('part',), houses.House.with_ways: ('ways',), errors.BadText: ('value',),
    keepers.Keeper: ('house', 'edition', 'manner'), keepers.Keeper.install: ('value',), keepers.Keeper.renew: ('part',), keepers.Keeper.begin: ('part',),
    keepers.Keeper.step: ('work', 'n'), keepers.Keeper.places: ('work',), keepers.Keeper.reads: ('work',), keepers.Keeper.manners: ('work',),
    keepers.Keeper.risk: ('work', 'manner'), keepers.Keeper.shows_risk: ('work', 'manner', 'value'), keepers.Keeper.anew: ('parts', 'manner', 'prices'),
    keepers.Keeper.reading: ('part',), keepers.Keeper.undo: (), keepers.Keeper.redo: (), keepers.Keeper.trial: (), keepers.Keeper.tried: ('look', 'keep'),
    keepers.Keeper.copy: (), readings.Reading.read: ('key',), readings.Reading.take: (), readings.Reading.ask: ('part',), readings.Reading.close: (),
    desk.Desk: ('text',), desk.Desk.say: ('line',),
}
FILES = (
    (sheets, ['Sheet']), (views, ['View', 'Draft']), (plans, ['Plan']), (houses, ['House']), (running, ['ran', 'kept_manners']),
    (stories, ['reads_of', 'keeps_all', 'shows_keeps_all', 'alike_all', 'shows_alike_all']), (seeing, ['sees', 'shows_sees']),
    (alike, ['alike', 'shows_alike']), (choosing, ['cheapest_ways', 'shows_cheapest_ways']), (anew, ['anew', 'shows_anew']),
    (changing, ['changeover', 'mix', 'shows_mix', 'ends_well']), (keepers, ['Keeper']), (readings, ['Reading']), (journals, ['read_journal', 'recover']),
    (desk, ['Desk']),
)


def arguments(call):
    return [name for name in inspect.signature(call).parameters if name != 'self']


class InterfaceTest(unittest.TestCase):
    def test_files(self):
        for place, kinds in FILES:
            for name in kinds:
                self.assertEqual(getattr(place, name).__module__, place.__name__)
        self.assertEqual(errors.BadText.__module__, 'settledreads.errors')

    def test_bodies(self):
        for kind, names in PROPERTIES.items():
            for name in names:
                self.assertIsInstance(vars(kind)[name], property)
        for kind, names in METHODS.items():
            for name in names:
                self.assertIn(name, vars(kind))
        self.assertIsInstance(vars(views.View)['whole'], staticmethod)

    def test_arguments(self):
        for call, names in {**ARGUMENTS, **FUNCTIONS}.items():
            self.assertEqual(tuple(arguments(call)), names)

    def test_arguments_behind_a_star(self):
        for call, name in ((keepers.Keeper, 'manner'), (keepers.Keeper.tried, 'keep')):
            parameters = inspect.signature(call).parameters
            self.assertEqual([told.name for told in parameters.values() if told.kind == told.KEYWORD_ONLY], [name])
        self.assertEqual([inspect.signature(call).parameters[name].default for call, name in (
            (keepers.Keeper, 'manner'), (keepers.Keeper.tried, 'keep'), (keepers.Keeper.step, 'n'),
        )], [None, False, 0])

    def test_rules(self):
        rule = sheets.Sheet(SHEET_TEXT).rules[0]
        self.assertIn('__call__', vars(rule.__class__))
        self.assertIsInstance(vars(rule.__class__)['text'], property)
        self.assertEqual(arguments(rule), ['view'])

    def test_trials(self):
        with journals.read_journal(JOURNAL).trial() as trial:
            self.assertEqual(arguments(trial.keep), [])


class ByNameTest(unittest.TestCase):
    def same(self, call, **named):
        """By place, and by name in each sequence; what is told is compared as it is shown, where it has no equality."""
        wanted = self.told(call(*named.values()))
        rows = list(itertools.permutations(named.items()))
        for row in rows[:1] + rows[1::max(1, len(rows) // 20)] + rows[-1:]:
            self.assertEqual(self.told(call(**dict(row))), wanted)

    def told(self, value):
        if value.__class__ is views.Draft:
            return value.view
        return (value.part, value.rows) if value.__class__ is readings.Reading else value

    def test_texts_and_views(self):
        sheet = sheets.Sheet(SHEET_TEXT)
        view = views.View(sheet, (('mode', 1),))
        self.same(sheets.Sheet, text=SHEET_TEXT)
        self.same(plans.Plan, text='part a kept')
        self.same(views.View, sheet=sheet, pairs=(('mode', 1),))
        self.same(views.View.whole, sheet=sheet, worths=(0, 1))
        self.same(view.is_within, other=views.View.whole(sheet, (1, 1)))
        self.same(views.Draft, edition=views.View.whole(sheet, (1, 1)))
        self.same(sheet.rules[0], view=view)
        for name in ('SettledError', 'Missing', 'NoKey', 'BadLine', 'Waits'):
            self.assertEqual(getattr(errors, name)(value='x').value, getattr(errors, name)('x').value)

    def test_plans_and_houses(self):
        plan, other = plans.Plan('part a kept\npart b fresh'), plans.Plan('part a once\npart b fresh')
        story = (('begin', 'a'), ('read',))
        self.same(stories.reads_of, plan=plan, firsts=(-1,), story=story)
        self.same(stories.keeps_all, plan=plan, part='a', manner='one')
        self.same(stories.shows_keeps_all, plan=plan, part='a', manner='one', value=stories.keeps_all(plan, 'a', 'one'))
        self.same(stories.alike_all, plan=plan, other=other)
        self.same(stories.shows_alike_all, plan=plan, other=other, value=stories.alike_all(plan, other))
        house = journals.read_journal(JOURNAL).house
        run = (((0, 0),), (0,), (('step', 0),))
        self.same(houses.House, text=house.text)
        self.same(house.first_line, part='left')
        self.same(house.with_ways, ways=('fresh', 'once'))
        self.same(running.ran, house=house, part='front', run=run)
        self.same(running.kept_manners, house=house, part='front', run=run)
        for part in ('front', 'left'):
            self.same(seeing.sees, house=house, part=part, manner='one')
            self.same(seeing.shows_sees, house=house, part=part, manner='one', value=seeing.sees(house, part, 'one'))
            self.same(alike.alike, house=house, part=part, ways=('handed', 'kept'))
            self.same(alike.shows_alike, house=house, part=part, ways=('handed', 'kept'), value=alike.alike(house, part, ('handed', 'kept')))

    def test_choices_and_changes(self):
        house = journals.read_journal(JOURNAL).house
        offers = (('left', 'handed', 2),)
        row = {'house': house, 'parts': ('front',), 'manner': 'one', 'offers': offers}
        self.same(choosing.cheapest_ways, **row)
        self.same(choosing.shows_cheapest_ways, **row, value=choosing.cheapest_ways(**row))
        row = {'house': house, 'parts': ('front',), 'editions': ((0, 0), (1, 1)), 'kept': (0,), 'manner': 'one', 'prices': (3,)}
        self.same(anew.anew, **row)
        self.same(anew.shows_anew, **row, value=anew.anew(**row))
        row = {'house': house, 'doors': ('front',), 'old': (0, 0), 'new': (1, 1), 'manner': 'one'}
        self.same(changing.changeover, **row, prices=((1,), (1,), 1))
        deeds = (('install',), ('renew', 'left'))
        self.same(changing.mix, **row, deeds=deeds)
        self.same(changing.shows_mix, **row, deeds=deeds, value=changing.mix(**row, deeds=deeds))
        row.pop('manner')
        self.same(changing.ends_well, **row, deeds=deeds)

    def test_keepers(self):
        keeper = journals.read_journal(JOURNAL)
        self.same(journals.read_journal, text=JOURNAL)
        self.same(journals.recover, text=JOURNAL + '\nx')
        self.same(lambda house, edition: keepers.Keeper(house=house, edition=edition), house=keeper.house, edition=keeper.edition)
        self.assertEqual(keepers.Keeper(manner='one', edition=keeper.edition, house=keeper.house), keepers.Keeper(keeper.house, keeper.edition, manner='one'))
        for call, named in (
            ('places', {'work': 0}), ('reads', {'work': 0}), ('manners', {'work': 0}), ('risk', {'work': 0, 'manner': 'one'}),
            ('shows_risk', {'work': 0, 'manner': 'one', 'value': ('safe', ())}), ('anew', {'parts': ('front',), 'manner': 'present', 'prices': (2,)}),
        ):
            self.same(getattr(keeper, call), **named)
        for call, named in (
            ('install', {'value': keeper.edition}), ('renew', {'part': 'left'}), ('begin', {'part': 'left'}), ('step', {'work': 1, 'n': 0}),
            ('reading', {'part': 'front'}),
        ):
            self.both(keeper, call, named)

    def both(self, keeper, call, named):
        """Of what changes the keeper: each on a copy of its own, with one work more."""
        told = []
        for row in (None, *itertools.permutations(named.items())):
            other = keeper.copy()
            other.begin('front')
            method = getattr(other, call)
            value = method(*named.values()) if row is None else method(**dict(row))
            told.append((self.told(value), other.orders))
        self.assertEqual(told, [told[0]] * len(told))

    def test_readings_and_desks(self):
        keeper = journals.read_journal(JOURNAL)
        with keeper.reading('front') as reading:
            self.same(reading.read, key='x')
            told = []
            for asked in (reading.ask, lambda part: reading.ask(part=part)):
                with asked('left') as inner:
                    told.append(inner.part)
            self.assertEqual(told, ['left', 'left'])
        for keep in (True, False):
            self.assertEqual(keeper.tried(keep=keep, look=lambda told: told.works), 1)
        self.assertEqual(desk.Desk(text=JOURNAL).keeper, desk.Desk(JOURNAL).keeper)
        self.same(desk.Desk(JOURNAL).say, line='kept')


if __name__ == '__main__':
    unittest.main()
