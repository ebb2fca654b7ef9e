"""mix and shows_mix, beside a plain search over single works; ends_well."""

import itertools
import random
import unittest

from plain_changes import all_deeds, comes_to_mix, fewest, first_wrong, random_deeds
from plain_changes import ends_well as plain_ends_well
from plain_houses import some_texts
from plain_runs import Home
from samples import raises, strange_values
from wrong_things import leaf_changes, no_results

from settledreads.changing import ends_well, mix, shows_mix
from settledreads.errors import BadDeeds, BadEdition, BadManner, BadParts
from settledreads.houses import House

COUNTER = 'key x 2\nkey y 2\npart front once\n  read y\n  ask left\npart left kept\n  read x'
OLD, NEW = (0, 0), (1, 1)
RENEWED = (('install',), ('renew', 'left'))
CLEAN = (('close', 'front'), ('install',), ('wait',), ('renew', 'left'), ('open', 'front'))


def random_case(source, text):
    home = Home(text)
    doors = tuple(sorted(source.sample(home.parts, source.randint(1, min(3, len(home.parts))))))
    old, new = source.choice(home.sheet.editions), source.choice(home.sheet.editions)
    return home, House(text), doors, old, new


class MixTest(unittest.TestCase):
    def check(self, home, house, doors, old, new, manner, deeds):
        """What mix tells is what the search tells."""
        wanted = fewest(home, doors, old, new, manner, deeds)
        told = mix(house, doors, old, new, manner, deeds)
        rest = (house, doors, old, new, manner, deeds)
        if wanted is None:
            self.assertIsNone(told, rest)
        else:
            self.assertEqual((told.__class__, len(told), told[2].__class__, len(told[2])), (tuple, 3, tuple, wanted), rest)
            self.assertIs(comes_to_mix(home, doors, old, new, manner, deeds, told), True)
            self.assertEqual((told[2][-1], {event.__class__ for event in told[2]}), (('step', 0), {tuple}))
            self.assertIs(shows_mix(*rest, None), False)
        self.assertIs(shows_mix(*rest, told), True)
        return told

    def test_random_rows(self):
        source = random.Random(101)
        seen = {}
        for text in some_texts(102, 120, 6) + some_texts(103, 40, 12):
            home, house, doors, old, new = random_case(source, text)
            for many in (0, 1, 3, 6):
                deeds = random_deeds(source, home, doors, many)
                for manner in ('each', 'one'):
                    told = self.check(home, house, doors, old, new, manner, deeds)
                    seen[manner, told is None] = seen.get((manner, told is None), 0) + 1
                self.assertIs(ends_well(house, doors, old, new, deeds), plain_ends_well(home, doors, old, new, deeds))
        self.assertTrue(len(seen) == 4 and min(seen.values()) > 20, seen)

    def test_by_hand(self):
        home, house = Home(COUNTER), House(COUNTER)
        told = self.check(home, house, ('front',), OLD, NEW, 'one', RENEWED)
        self.assertEqual(told, ('front', 1, (('step', 0),) * 3))
        self.assertIsNone(self.check(home, house, ('front',), OLD, NEW, 'one', CLEAN))
        self.assertIsNone(self.check(home, house, ('front',), OLD, NEW, 'each', RENEWED))
        self.assertIsNone(self.check(home, house, ('left',), OLD, NEW, 'one', RENEWED))
        for deeds in itertools.permutations(CLEAN):
            if not first_wrong(home, ('front',), deeds):
                self.check(home, house, ('front',), OLD, NEW, 'one', deeds)

    def test_works_that_begin_behind_each_number_of_deeds_at_each_door(self):
        """Only where the present edition is the newer one, and left keeps the elder one, all that begins comes to a mix."""
        text = COUNTER.replace('part left', 'part back handed\n  read y\n  ask left\npart left')
        home, house = Home(text), House(text)
        deeds = (('close', 'front'), ('install',), ('wait',), ('open', 'front'), ('renew', 'left'))
        for doors, wanted in ((('front',), {('front', 4)}), (('back', 'front'), {('back', 2), ('back', 3), ('back', 4), ('front', 4)})):
            told = self.check(home, house, doors, OLD, NEW, 'one', deeds)
            self.assertIn(told, [(door, number, (('step', 0),) * 3) for door, number in wanted])
            for door, number in itertools.product(('back', 'front', 'left'), range(-1, 7)):
                told = (door, number, (('step', 0),) * 3)
                self.assertIs(shows_mix(house, doors, OLD, NEW, 'one', deeds, told), (door, number) in wanted)
        told = self.check(home, house, ('back',), OLD, NEW, 'one', RENEWED)
        self.assertEqual(told, ('back', 1, (('step', 0),) * 3))

    def test_waits(self):
        """No work goes on over one; those that begin meanwhile are behind it."""
        home, house = Home(COUNTER), House(COUNTER)
        # A work that has read y = 0 ahead of the installing would read x = 1 behind the renewing.
        for deeds, events in (
            ((('close', 'front'), ('install',), ('renew', 'left'), ('open', 'front')), (('step', 0), *[('deed',)] * 3, ('step', 0), ('step', 0))),
            ((('close', 'front'), ('install',), ('wait',), ('renew', 'left'), ('open', 'front')), None),
            ((('close', 'front'), ('wait',), ('install',), ('renew', 'left'), ('open', 'front')), None),
            ((('close', 'front'), ('install',), ('renew', 'left'), ('wait',), ('open', 'front')), (('step', 0), *[('deed',)] * 3, ('step', 0), ('step', 0))),
            ((('wait',), ('close', 'front'), ('install',), ('renew', 'left'), ('open', 'front')), (('step', 0), *[('deed',)] * 3, ('step', 0), ('step', 0))),
        ):
            told = self.check(home, house, ('front',), OLD, NEW, 'one', deeds)
            self.assertEqual(told is None, events is None, deeds)
            self.assertEqual(told is None or len(told[2]), events is None or len(events))

    def test_renews_of_parts_that_the_work_has_open(self):
        """left is begun anew behind the work alone: so it reads x and then y of one edition."""
        text = 'key x 2\nkey y 2\npart left kept\n  read x\n  take\n  read y'
        home, house = Home(text), House(text)
        self.assertIsNone(self.check(home, house, ('left',), OLD, NEW, 'one', RENEWED))
        rest = (house, ('left',), OLD, NEW, 'one', RENEWED)
        for events in ((('step', 0), ('deed',), ('deed',), ('step', 0), ('step', 0)), (('step', 0), ('deed',), ('step', 0), ('deed',), ('step', 0))):
            self.assertIs(shows_mix(*rest, ('left', 0, events)), False)
        asked = 'key x 2\nkey y 2\npart top once\n  ask left\n  ask left\npart left kept\n  read x\n  read y'
        told = self.check(Home(asked), House(asked), ('top',), OLD, NEW, 'one', RENEWED)
        self.assertEqual(told, ('top', 1, (*[('step', 0)] * 3, ('deed',), ('step', 0), ('step', 0))))
        self.assertIsNone(self.check(Home(asked), House(asked), ('top',), OLD, NEW, 'each', RENEWED))

    def test_alike_editions_have_no_mix(self):
        home, house = Home(COUNTER), House(COUNTER)
        for manner in ('each', 'one'):
            self.assertIsNone(self.check(home, house, ('front', 'left'), NEW, NEW, manner, RENEWED))
            self.assertIsNone(self.check(home, house, ('front', 'left'), (0, 1), NEW, manner, ()))

    def test_over_as_it_begins(self):
        house = House('key x 2\npart a kept\n  end\n  read x')
        self.assertIsNone(mix(house, ('a',), (0,), (1,), 'one', (('install',),)))
        self.assertIs(shows_mix(house, ('a',), (0,), (1,), 'one', (('install',),), ('a', 0, ())), False)
        self.assertIs(ends_well(house, ('a',), (0,), (1,), (('install',),)), True)


class ShowsTest(unittest.TestCase):
    def test_all_short_works(self):
        seen = {True: 0, False: 0}
        text = 'key x 2\npart a fresh\n  choose\n    way\n      read x\n    way\n      take\n  ask b\npart b kept\n  read x'
        home, house = Home(text), House(text)
        for deeds in ((('install',), ('renew', 'b')), (('install',), ('close', 'a'), ('wait',), ('renew', 'b')), ()):
            events = [('step', 0), ('step', 1), ('deed',)]
            for door, number, many in itertools.product(('a', 'b'), range(len(deeds) + 1), range(6)):
                for row in itertools.product(events, repeat=many):
                    for manner in ('each', 'one'):
                        value = (door, number, row)
                        wanted = comes_to_mix(home, ('a', 'b'), (0,), (1,), manner, deeds, value)
                        seen[wanted] += 1
                        self.assertIs(shows_mix(house, ('a', 'b'), (0,), (1,), manner, deeds, value), wanted, (deeds, value))
        self.assertGreater(min(seen.values()), 8)

    def test_longer_works(self):
        text = 'key x 2\nkey y 2\npart a fresh\n  loop\n    read x'
        house = House(text)
        loop = (('step', 1), ('step', 0))
        rest = (house, ('a',), (0, 0), (1, 0), 'one', (('install',),))
        for events, is_right in (
            ((*loop, ('deed',), *loop), True), ((*loop, *loop, *loop, ('deed',), *loop), True), ((*loop, ('deed',), *loop, *loop), False),
            ((*loop, ('deed',), *loop, ('step', 1)), False), ((*loop, ('deed',), ('step', 1)), False), ((*loop, ('deed',), *loop, ('deed',)), False),
            ((('deed',), *loop, *loop), False), ((*loop, ('deed',), ('step', 0), ('step', 0)), False), ((), False),
        ):
            self.assertIs(shows_mix(*rest, ('a', 0, events)), is_right, events)

    def test_wrong_in_one_thing(self):
        home, house = Home(COUNTER), House(COUNTER)
        rest = (house, ('front',), OLD, NEW, 'one', RENEWED)
        for value in (mix(*rest), ('front', 0, (('step', 0), ('deed',), ('deed',), ('step', 0), ('step', 0)))):
            self.assertIs(shows_mix(*rest, value), True)
            for other in leaf_changes(value):
                self.assertIs(shows_mix(*rest, other), self.is_right(home, other), other)

    def is_right(self, home, value):
        if not isinstance(value, tuple) or len(value) != 3 or not isinstance(value[2], tuple) or value[1].__class__ is not int:
            return False
        if not all([isinstance(event, tuple) for event in value[2]]) or 'True' in repr(value) or 'False' in repr(value):
            return False
        return comes_to_mix(home, ('front',), OLD, NEW, 'one', RENEWED, value)

    def test_what_is_no_result(self):
        house = House(COUNTER)
        for deeds in (RENEWED, CLEAN):
            for value in strange_values() + no_results(['front', 'none']):
                wanted = value is None and deeds == CLEAN
                self.assertIs(shows_mix(house, ('front',), OLD, NEW, 'one', deeds, value), wanted, value)
                for told in (('front', value, (('step', 0),) * 3), (value, 1, (('step', 0),) * 3), ('front', 1, value), ('front', 1, (value,))):
                    self.assertIs(shows_mix(house, ('front',), OLD, NEW, 'one', deeds, told), told == ('front', 1, (('step', 0),) * 3)
                                  and value.__class__ is not bool and deeds == RENEWED, told)
        # No work begins at a closed door, nor at a part that is none, and mixes behind the last deed are none of this row.
        for door, number in (('front', 2), ('left', 1), ('front', -1), ('front', 3)):
            self.assertIs(shows_mix(house, ('front',), OLD, NEW, 'one', RENEWED, (door, number, (('step', 0),) * 3)), False)
        shut = (('close', 'front'), ('install',), ('open', 'front'))
        for number in range(4):
            told = ('front', number, (('step', 0),) * 3)
            self.assertIs(shows_mix(house, ('front',), OLD, NEW, 'one', shut, told), number == 3)


class EndsWellTest(unittest.TestCase):
    def test_each_reason(self):
        house = House(COUNTER)
        for new, deeds, wanted in (
            (NEW, RENEWED, True), (NEW, CLEAN, True), (NEW, (), False), (OLD, (), False), (OLD, (('install',),), True), (NEW, (('install',),), False),
            ((0, 1), (('install',),), True), ((1, 0), (('install',),), False), (NEW, (('install',), ('close', 'front'), ('renew', 'left')), False),
            (NEW, (('install',), ('close', 'front'), ('renew', 'left'), ('open', 'front')), True), (NEW, (('wait',), *RENEWED, ('wait',)), True),
        ):
            self.assertIs(ends_well(house, ('front',), OLD, new, deeds), wanted, (new, deeds))

    def test_doors_alone(self):
        """A kept part that no work of a door comes to may keep the elder edition."""
        house = House(COUNTER + '\npart side fresh\n  read x')
        self.assertIs(ends_well(house, ('side',), OLD, NEW, (('install',),)), True)
        self.assertIs(ends_well(house, ('front', 'side'), OLD, NEW, (('install',),)), False)
        self.assertIs(ends_well(house, ('left',), OLD, NEW, (('install',),)), False)


class ErrorTest(unittest.TestCase):
    def all_three(self, kind, value, *rest):
        """rest: doors, old, new, deeds; with each manner that may be."""
        house = House(COUNTER)
        for manner in ('one', 'each'):
            raises(self, kind, value, mix, house, *rest[:3], manner, rest[3])
            for told in (None, ('front', 1, (('step', 0),) * 3)):
                raises(self, kind, value, shows_mix, house, *rest[:3], manner, rest[3], told)
        raises(self, kind, value, ends_well, house, *rest)

    def test_doors(self):
        for value in strange_values() + [('left', 'front'), ('left', 'left'), ('front', 'x'), ['front'], 'front', ('Front',)]:
            self.all_three(BadParts, value, value, OLD, NEW, ())
            self.all_three(BadParts, value, value, None, None, None)

    def test_editions(self):
        wrong = [(), (0,), (0, 0, 0), (0, 2), (0, -1), [0, 0], (0, True), (0, None), ((0, 0),)]
        for value in strange_values() + wrong:
            self.all_three(BadEdition, value, ('front',), value, NEW, ())
            self.all_three(BadEdition, value, ('front',), value, None, None)
            self.all_three(BadEdition, value, ('front',), OLD, value, ())
            self.all_three(BadEdition, value, ('front',), OLD, value, None)
        barred = House('key x 2\nkey y 2\nrule x = 0 or y = 0\npart a fresh\n  read x')
        raises(self, BadEdition, (1, 1), mix, barred, ('a',), (1, 1), (0, 0), 'one', ())
        raises(self, BadEdition, (1, 1), ends_well, barred, ('a',), (0, 0), (1, 1), ())

    def test_manners(self):
        for value in strange_values() + ['One', 'forward', 'begun', 'lawful', 'present', ('one',), ['one']]:
            for deeds in ((), None):
                raises(self, BadManner, value, mix, House(COUNTER), ('front',), OLD, NEW, value, deeds)
                raises(self, BadManner, value, shows_mix, House(COUNTER), ('front',), OLD, NEW, value, deeds, None)

    def test_deeds(self):
        for value in strange_values():
            if not isinstance(value, tuple):
                self.all_three(BadDeeds, 0, ('front',), OLD, NEW, value)
            elif value:
                self.all_three(BadDeeds, 1, ('front',), OLD, NEW, value)
            self.all_three(BadDeeds, 2, ('front',), OLD, NEW, (('install',), value, None))
            self.all_three(BadDeeds, 2, ('front',), OLD, NEW, (('wait',), (value,)))
            for word in ('renew', 'close', 'open', 'install', 'wait'):
                self.all_three(BadDeeds, 2, ('front',), OLD, NEW, (('install',), (word, value)))
                self.all_three(BadDeeds, 2, ('front',), OLD, NEW, (('install',), (word, 'left', value)))
        for number, deeds in (
            (2, (('install',), ('install',))), (3, (('install',), ('wait',), ('install',))), (1, (('renew', 'left'), ('install',))),
            (3, (*RENEWED, ('renew', 'left'))), (5, (*RENEWED, ('wait',), ('wait',), ('renew', 'left'))), (2, (('install',), ('renew', 'front'))),
            (2, (('close', 'front'), ('close', 'front'))), (1, (('open', 'front'),)), (3, (('close', 'front'), ('open', 'front'), ('open', 'front'))),
            (1, (('close', 'left'),)), (1, (('open', 'left'),)), (1, (('close',),)), (1, (('open',),)), (1, (('renew',),)), (1, (('install', 'front'),)),
            (1, (('wait', 'front'),)), (1, (('Install',),)), (1, ('install',)), (1, (['install'],)), (0, [('install',)]), (2, (('install',), ('renew', 'x'))),
            (3, (('install',), ('close', 'front'), ('renew', ['left']))), (1, (('close', 'front', 'left'),)), (2, (('wait',), ())),
        ):
            self.all_three(BadDeeds, number, ('front',), OLD, NEW, deeds)

    def test_all_rows_of_three(self):
        """Each deed behind each two others: done, or told by its number."""
        home = Home(COUNTER)
        for doors in (('front',), ('front', 'left')):
            for deeds in itertools.product(all_deeds(home, doors), repeat=3):
                bad = first_wrong(home, doors, deeds)
                if bad:
                    raises(self, BadDeeds, bad, ends_well, House(COUNTER), doors, OLD, NEW, deeds)
                else:
                    self.assertIs(ends_well(House(COUNTER), doors, OLD, NEW, deeds), plain_ends_well(home, doors, OLD, NEW, deeds))

    def test_arguments_by_name(self):
        house = House(COUNTER)
        told = mix(deeds=RENEWED, manner='one', new=NEW, old=OLD, doors=('front',), house=house)
        self.assertEqual(told, mix(house, ('front',), OLD, NEW, 'one', RENEWED))
        self.assertIs(shows_mix(value=told, deeds=RENEWED, manner='one', new=NEW, old=OLD, doors=('front',), house=house), True)
        self.assertIs(ends_well(deeds=RENEWED, new=NEW, old=OLD, doors=('front',), house=house), True)


if __name__ == '__main__':
    unittest.main()
