"""alike, beside a plain search over runs with whole editions, gone through by two ways."""

import itertools
import random
import unittest
from unittest import mock

from plain_houses import WAYS, some_texts
from plain_twos import all_starts, homes_of, is_parting, plain_search, standing_of
from samples import raises, strange_values

from settledreads import alike as place
from settledreads.alike import alike, shows_alike
from settledreads.errors import BadWays, NoPart, TooMany
from settledreads.houses import House
from settledreads.running import ran
from settledreads.seeing import sees

DESK = '''key x 2
key y 2
rule x = 0 or y = 0
part shop kept
  if x = 1
    ask till
  else
    take
  read y
part till handed
  read y
  loop
    read x'''
FIXED = 'key x 2\nkey y 2\nrule x = 0\npart a fresh\n  read x\n  read y\n  read x'


class AlikeCase(unittest.TestCase):
    def check(self, text, part, ways, most=1500):
        """What alike tells is what the search tells; None if this goes on too long."""
        homes, house = homes_of(text, ways), House(text)
        wanted = plain_search(homes, homes[0].parts.index(part), most)
        if wanted is None:
            return None
        told = alike(house, part, ways)
        self.assertEqual((told.__class__, len(told), told[0]), (tuple, 2, wanted[0]), (text, part, ways))
        if told[0] == 'alike':
            self.assertEqual(told[1], tuple(sorted(wanted[1])), (text, part, ways))
        else:
            self.assertEqual([value.__class__ for value in (told[1], *told[1])], [tuple] * 4)
            self.assertEqual(len(told[1][2]), wanted[2], (text, part, ways))
            self.assertEqual(told[1][2][-1][0], 'step')
            self.assertIs(is_parting(homes, part, told[1]), True, (text, part, ways, told))
        self.assertIs(shows_alike(house, part, ways, told), True)
        return told


class AlikeTest(AlikeCase):
    def test_random_houses(self):
        words = {'alike': 0, 'apart': 0}
        source = random.Random(61)
        for text in some_texts(62, 90, 4) + some_texts(63, 40, 7):
            house = House(text)
            for part in house.plan.parts:
                own = list(house.plan.ways)
                own[source.randrange(len(own))] = source.choice(WAYS)
                for ways in (tuple(own), tuple([source.choice(WAYS) for _ in own])):
                    told = self.check(text, part, ways, 500)
                    if told is not None:
                        words[told[0]] += 1
        self.assertTrue(words['alike'] > 60 and words['apart'] > 60, words)

    def test_each_way_beside_each_other_one(self):
        """Of the first part of a work, and of one that it asks, which takes or does not."""
        words = {}
        for one, other in itertools.product(WAYS, repeat=2):
            for take in ('', '  take\n'):
                lone = f'key x 2\npart b {one}\n{take}  read x'
                pair = f'key x 2\npart a once\n  ask b\npart b {one}\n{take}  read x'
                told = self.check(lone, 'b', (other,), 20000)
                words[one, other, take] = (told[0], self.check(pair, 'a', ('once', other), 20000)[0])
        # What takes and then reads at once may still see another edition in between, but for once and handed.
        self.assertEqual(words['once', 'handed', ''], ('alike', 'apart'))
        self.assertEqual(words['once', 'handed', '  take\n'], ('alike', 'alike'))
        self.assertEqual(words['fresh', 'once', ''], ('apart', 'apart'))
        self.assertEqual(words['kept', 'kept', ''], ('alike', 'alike'))
        self.assertEqual({words[way, way, take] for way in WAYS for take in ('', '  take\n')}, {('alike', 'alike')})
        for one, other in itertools.combinations(WAYS, 2):
            self.assertEqual(words[one, other, ''], words[other, one, ''])

    def test_by_hand(self):
        for ways in itertools.product(WAYS, repeat=2):
            for part in ('shop', 'till'):
                self.assertIsNotNone(self.check(DESK, part, ways, 20000))

    def test_parts_kept_in_one_of_both_alone(self):
        """kept has a number for each of them, and renew may come where it does nothing."""
        told = self.check('key x 2\npart a once\n  read x\npart b fresh\n  read x\npart c kept\n  read x', 'a', ('once', 'kept', 'fresh'))
        self.assertEqual({len(row[2]) for row in told[1]}, {2})
        self.assertLess({(0, 0), (0, 1), (1, 0), (1, 1)}, {row[2] for row in told[1]})
        word, run = self.check('key x 2\npart a kept\n  read x', 'a', ('once',))
        self.assertEqual((word, run[1], run[2]), ('apart', (0,), (('step', 0),)))
        self.assertEqual(len(run[0]), 2)
        self.assertNotEqual(run[0][0], run[0][1])
        word, run = self.check('key x 2\npart a once\n  read x', 'a', ('kept',))
        self.assertEqual((word, len(run[0]), run[1:]), ('apart', 2, ((0,), (('step', 0),))))

    def test_rules_that_leave_a_key_one_worth(self):
        for way in WAYS:
            told = self.check(FIXED.replace('  read y\n', ''), 'a', (way,))
            self.assertEqual(told[0], 'alike')
        self.assertEqual(self.check(FIXED, 'a', ('once',))[0], 'apart')
        # x of the kept edition and of the newer one is 0: known of both then.
        told = self.check('key x 2\nrule x = 0\npart a kept\n  read x\n  take', 'a', ('once',))
        self.assertIn((((4, -1, 1),), ((0,), (0,)), (0,)), told[1])
        self.assertNotIn((((4, -1, 1),), ((0,), (-1,)), (0,)), told[1])

    def test_two_editions_that_can_give_one_worth_alone_the_same(self):
        """What was read of both leaves y one worth, alike in both."""
        text = 'key x 2\nkey y 2\nrule x = 1\nrule y = 1 or x = 0\npart a fresh\n  read y'
        self.assertEqual(self.check(text, 'a', ('once',))[0], 'alike')
        text = 'key x 2\nkey y 2\nrule x = 0 or y = 0\npart a once\n  if x = 1\n    ask b\npart b kept\n  if x = 1\n    ask c\npart c {}\n  read y'
        told = self.check(text.format('handed'), 'a', ('once', 'kept', 'once'), 20000)
        self.assertEqual(told[0], 'apart')

    def test_a_house_and_its_own_ways(self):
        for text in some_texts(64, 40, 5) + [DESK]:
            house = House(text)
            for part in house.plan.parts:
                try:
                    told = alike(house, part, house.plan.ways)
                except TooMany:
                    continue
                self.assertEqual(told[0], 'alike')
                self.assertIs(shows_alike(house, part, house.plan.ways, told), True)

    def test_over_as_it_begins(self):
        house = House('key x 2\npart a kept\n  end\n  read x')
        self.assertEqual(alike(house, 'a', ('fresh',)), ('alike', ()))
        self.assertIs(shows_alike(house, 'a', ('fresh',), ('alike', ())), True)
        self.assertIs(shows_alike(house, 'a', ('fresh',), ('apart', ())), False)

    def test_small_tables(self):
        house = House('key x 2\nkey y 2\npart a once\n  read y')
        blank = (-1, -1)
        self.assertEqual(alike(house, 'a', ('handed',)), ('alike', (
            (((3, 0, 0),), (blank,), ()), (((3, 0, 0),), (blank, blank), ()),
        )))
        house = House('key x 2\npart a kept\n  read x\n  read x')
        rows = alike(house, 'a', ('kept',))[1]
        self.assertEqual(rows[0], (((2, -1, -1),), ((-1,),), (0,)))
        self.assertIn((((3, -1, -1),), ((1,), (-1,)), (0,)), rows)

    def test_settled_editions_break_one_and_are_alike(self):
        house = House('key mode 2\nrule mode = 0\npart shop fresh\n  read mode\n  read mode')
        self.assertEqual([alike(house, 'shop', (way,))[0] for way in WAYS], ['alike'] * 4)
        self.assertEqual(sees(house, 'shop', 'one')[0], 'breaks')

    def test_a_run_reads_unlike_worths_by_its_last_event(self):
        source = random.Random(65)
        asked = 0
        for text in some_texts(66, 60, 5):
            house = House(text)
            ways = tuple([source.choice([way, 'once', 'fresh', 'handed']) if way != 'kept' else way for way in house.plan.ways])
            other = house.with_ways(ways)
            for part in house.plan.parts:
                told = self.word(house, part, ways)
                if told is None or told[0] == 'alike':
                    continue
                asked += 1
                run = told[1]
                rows = [[row[:2] for row in ran(one, part, run)[0]] for one in (house, other)]
                self.assertEqual(rows[0][:-1], rows[1][:-1])
                self.assertEqual([rows[0][-1][0], rows[0][-1][1] != rows[1][-1][1]], [rows[1][-1][0], True])
        self.assertGreater(asked, 20)

    def word(self, house, part, ways):
        try:
            return alike(house, part, ways)
        except TooMany:
            return None


class WrongThingsTest(unittest.TestCase):
    def test_errors(self):
        house = House(DESK)
        good = ('once', 'fresh')
        for value in strange_values() + ['Shop', 'x', ('shop',), 'one']:
            for ways in (good, (), None):
                raises(self, NoPart, value, alike, house, value, ways)
                raises(self, NoPart, value, shows_alike, house, value, ways, ('alike', ()))
        wrong = [('once',), ('once', 'fresh', 'fresh'), ['once', 'fresh'], ('once', 'Fresh'), ('once', 1), ('once', None), ('once', 'takes')]
        for value in strange_values() + wrong:
            raises(self, BadWays, value, alike, house, 'till', value)
            raises(self, BadWays, value, shows_alike, house, 'till', value, None)

    def test_arguments_by_name(self):
        house = House(DESK)
        told = alike(ways=('once', 'once'), part='till', house=house)
        self.assertEqual(told, alike(house, 'till', ('once', 'once')))
        self.assertIs(shows_alike(value=told, ways=('once', 'once'), part='till', house=house), True)

    def test_bad_ways_ahead_of_too_many(self):
        with mock.patch.object(place, 'MOST_STANDINGS', 0):
            house = House(DESK)
            raises(self, BadWays, (), alike, house, 'till', ())
            raises(self, TooMany, 0, alike, house, 'till', ('kept', 'once'))


class TooManyTest(unittest.TestCase):
    def test_at_any_number(self):
        """With another number in the place of 4000: told just where more standings come by fewer events."""
        asked = {'alike': 0, 'apart': 0}
        source = random.Random(67)
        for text in some_texts(68, 60, 5):
            house = House(text)
            ways = tuple([source.choice(WAYS) for _ in house.plan.parts])
            wanted = plain_search(homes_of(text, ways), 0, 800)
            if wanted is None or wanted[3] == 0:
                continue
            word, _, _, ahead = wanted
            part = house.plan.parts[0]
            for most in (ahead - 1, ahead, ahead + 1):
                with mock.patch.object(place, 'MOST_STANDINGS', most):
                    if most < ahead:
                        raises(self, TooMany, most, alike, house, part, ways)
                    else:
                        self.assertEqual(alike(house, part, ways)[0], word)
            asked[word] += 1
        self.assertTrue(min(asked.values()) > 8, asked)

    def test_at_4000(self):
        text = 'key x 3\nkey y 3\nkey z 3\npart a kept\n  read x\n  read y\n  read z\n  ask b\npart b kept\n  read x\n  read y\n  read z\n  take\n' \
            'part c kept\n  end\npart d kept\n  end'
        house = House(text)
        raises(self, TooMany, 4000, alike, house, 'a', ('kept', 'kept', 'kept', 'kept'))
        # The same house parts by one event where a reads by another edition.
        self.assertEqual(alike(house, 'a', ('fresh', 'kept', 'kept', 'kept'))[0], 'apart')
        raises(self, TooMany, 4000, alike, house, 'b', ('fresh', 'kept', 'kept', 'handed'))

    def test_starts_alone(self):
        """The standings with which a work begins come by no event."""
        house = House('key x 2\npart a kept\n  take\n  read x')
        starts = {standing_of(homes_of(house.text, ('kept',)), jobs) for jobs in all_starts(homes_of(house.text, ('kept',)), 0)}
        with mock.patch.object(place, 'MOST_STANDINGS', len(starts) - 1):
            raises(self, TooMany, len(starts) - 1, alike, house, 'a', ('kept',))


if __name__ == '__main__':
    unittest.main()
