"""cheapest_ways and shows_cheapest_ways, beside a plain search through all choices."""

import itertools
import random
import unittest
from unittest import mock

from plain_houses import WAYS, some_texts
from plain_runs import MANNERS
from samples import raises, strange_values
from wrong_things import leaf_changes, no_results

from settledreads import seeing
from settledreads.choosing import cheapest_ways, shows_cheapest_ways
from settledreads.errors import BadManner, BadOffers, BadParts, TooMany
from settledreads.houses import House
from settledreads.seeing import sees, shows_sees

LOOSE = 'key mode 2\nkey size 3\nrule mode = 0 or size != 2\npart shop once\n  if mode = 1\n    ask till\n  read size\npart till fresh\n  read size'
THREE = 'key x 2\nkey y 2\npart a fresh\n  read x\n  ask b\npart b kept\n  read y\n  ask c\npart c fresh\n  read x'
OFFERS = (('till', 'handed', 2), ('till', 'once', 1))


def all_choices(offers):
    """All choices in their sequence, by trying all tuples of offers."""
    rows = []
    for many in range(len(offers) + 1):
        for choice in itertools.combinations(sorted(offers), many):
            names = [offer[0] for offer in choice]
            if len(set(names)) == len(names):
                rows.append((sum([offer[2] for offer in choice]), choice))
    return [choice for _, choice in sorted(rows)]


def changed(house, choice):
    ways = dict(zip(house.plan.parts, house.plan.ways))
    ways.update({part: way for part, way, _ in choice})
    return house.with_ways(tuple([ways[part] for part in house.plan.parts]))


def plain(house, parts, manner, offers):
    """(the first choice that keeps the manner or None, (choice, part) of all ahead); None if it comes to TooMany."""
    reasons = []
    for choice in all_choices(offers):
        told = None
        for part in parts:
            try:
                word = sees(changed(house, choice), part, manner)[0]
            except TooMany:
                return None
            if word == 'breaks':
                told = part
                break
        if told is None:
            return choice, reasons
        reasons.append((choice, told))
    return None, reasons


def random_offers(source, house):
    rows = {}
    for _ in range(source.randint(1, 5)):
        part = source.choice(house.plan.parts)
        own = house.plan.ways[house.plan.parts.index(part)]
        rows[part, source.choice([way for way in WAYS if way != own])] = source.randint(1, 9)
    return tuple(sorted([(part, way, price) for (part, way), price in rows.items()]))


class CheapestTest(unittest.TestCase):
    def check(self, house, parts, manner, offers):
        wanted = plain(house, parts, manner, offers)
        if wanted is None:
            raises(self, TooMany, 4000, cheapest_ways, house, parts, manner, offers)
            return None
        told = cheapest_ways(house, parts, manner, offers)
        choice, reasons = wanted
        if choice is None:
            self.assertEqual((told.__class__, len(told), told[0]), (tuple, 2, 'none'))
        else:
            self.assertEqual(told[:3], ('choice', sum([offer[2] for offer in choice]), choice))
            self.assertEqual(len(told), 5)
            self.assertEqual(told[3], tuple([sees(changed(house, choice), part, manner)[1] for part in parts]))
        self.assertEqual((told[-1].__class__, [row[:2] for row in told[-1]]), (tuple, reasons))
        for row in told[-1]:
            self.assertEqual((row.__class__, len(row)), (tuple, 3))
            one = changed(house, row[0])
            self.assertIs(shows_sees(one, row[1], manner, ('breaks', row[2])), True)
            self.assertEqual(len(row[2][2]), len(sees(one, row[1], manner)[1][2]))
        self.assertIs(shows_cheapest_ways(house, parts, manner, offers, told), True)
        return told

    def test_random_houses(self):
        source = random.Random(71)
        seen = {}
        for text in some_texts(72, 70, 4):
            house = House(text)
            names = sorted(house.plan.parts)
            for manner in MANNERS:
                parts = tuple(sorted(source.sample(names, source.randint(1, len(names)))))
                told = self.check(house, parts, manner, random_offers(source, house))
                if told is not None:
                    seen.setdefault((told[0], manner), []).append(len(told[-1]))
        self.assertEqual(set(seen), {(word, manner) for word in ('choice', 'none') for manner in MANNERS})
        self.assertGreater(max([max(row) for (word, _), row in seen.items() if word == 'choice']), 3)

    def test_by_hand(self):
        house = House(LOOSE)
        told = self.check(house, ('shop',), 'one', OFFERS)
        self.assertEqual(told[:3], ('choice', 2, (('till', 'handed', 2),)))
        self.assertEqual(self.check(house, ('shop',), 'each', OFFERS)[:3], ('choice', 0, ()))
        self.assertEqual(self.check(house, ('shop',), 'each', OFFERS)[4], ())
        self.assertEqual(self.check(house, ('shop',), 'one', (('till', 'once', 1),))[0], 'none')
        self.assertEqual(len(self.check(house, ('shop',), 'one', (('till', 'once', 1),))[1]), 2)

    def test_the_sequence_of_choices(self):
        """By price, then as tuples: of equal prices the one with the lesser offers, not with fewer."""
        house = House(THREE)
        offers = (('a', 'once', 1), ('b', 'handed', 1), ('c', 'handed', 1), ('c', 'once', 2))
        told = self.check(house, ('a',), 'one', offers)
        self.assertEqual(told[:3], ('choice', 3, offers[:3]))
        self.assertEqual([row[0] for row in told[4]], [
            (), offers[:1], offers[1:2], offers[2:3], offers[:2], (offers[0], offers[2]), offers[1:3], offers[3:],
        ])
        dear = (('a', 'once', 5), ('b', 'handed', 1), ('c', 'handed', 9))
        self.assertEqual([len(row[0]) for row in self.check(house, ('a',), 'one', dear)[4]], [0, 1, 1, 2, 1, 2, 2])

    def test_a_choice_that_breaks_for_the_second_part_alone(self):
        house = House('key x 2\npart a once\n  read x\n  read x\npart b fresh\n  read x\n  read x')
        told = self.check(house, ('a', 'b'), 'one', (('b', 'once', 4),))
        self.assertEqual([row[:2] for row in told[4]], [((), 'b')])
        self.assertEqual(len(told[3]), 2)
        self.assertEqual(self.check(house, ('a',), 'one', (('b', 'once', 4),))[:3], ('choice', 0, ()))
        self.assertEqual([row[:2] for row in self.check(house, ('a', 'b'), 'one', (('a', 'fresh', 1),))[1]], [((), 'b'), ((('a', 'fresh', 1),), 'a')])

    def test_each_manner(self):
        house = House(THREE)
        offers = (('a', 'once', 3), ('b', 'handed', 2), ('c', 'handed', 1))
        told = {manner: self.check(house, ('a', 'b', 'c'), manner, offers)[:3] for manner in MANNERS}
        self.assertEqual(told['each'], ('choice', 0, ()))
        self.assertEqual({told[manner][0] for manner in MANNERS}, {'choice'})
        self.assertEqual(told['one'][2], offers)

    def test_arguments_by_name(self):
        house = House(LOOSE)
        told = cheapest_ways(offers=OFFERS, manner='one', parts=('shop',), house=house)
        self.assertEqual(told, cheapest_ways(house, ('shop',), 'one', OFFERS))
        self.assertIs(shows_cheapest_ways(value=told, offers=OFFERS, manner='one', parts=('shop',), house=house), True)


class ErrorTest(unittest.TestCase):
    def both(self, kind, value, *rest):
        raises(self, kind, value, cheapest_ways, House(LOOSE), *rest)
        raises(self, kind, value, shows_cheapest_ways, House(LOOSE), *rest, ('none', ()))

    def test_parts(self):
        wrong = [('till', 'shop'), ('shop', 'shop'), ('shop', 'till', 'till'), ('shop', 'x'), ('shop', 1), ['shop'], 'shop', ('Shop',), ((),)]
        for value in strange_values() + wrong:
            for manner, offers in (('one', OFFERS), ('all', ()), (None, None)):
                self.both(BadParts, value, value, manner, offers)

    def test_manners(self):
        for value in strange_values() + ['One', 'present', 'alike', ('one',), ['one']]:
            for offers in (OFFERS, (), None):
                self.both(BadManner, value, ('shop',), value, offers)

    def test_offers(self):
        good = ('shop', 'fresh', 1)
        six = (('shop', 'fresh', 1), ('shop', 'handed', 1), ('shop', 'kept', 1), ('till', 'handed', 1), ('till', 'kept', 1), ('till', 'once', 1))
        wrong = [
            six, six[::-1], OFFERS[::-1], list(OFFERS), (*OFFERS, OFFERS[-1]), (OFFERS[0], OFFERS[0]), (('shop', 'once', 1),), (('till', 'fresh', 1),),
            (('till', 'never', 1),), (('x', 'once', 1),), (('till', 'once', 0),), (('till', 'once', 10),), (('till', 'once', True),), (('till', 'once', -1),),
            (('till', 'once', None),), (('till', 'once', '1'),), (('till', 'once'),), (('till', 'once', 1, 1),), (['till', 'once', 1],), ('till', 'once', 1),
            (('till', 'once', 1), ('till', 'once', 2)), (good, ('till', 'once', 1), ('till', 'once', 2)), (good, None), (good, (None, None, None)),
            (('till', ['once'], 1),), ((['till'], 'once', 1),), (('till', 'once', 1.0),), (('till', 'once', (1,)),), (('till', None, 1),),
        ]
        for value in strange_values() + wrong:
            self.both(BadOffers, value, ('shop',), 'one', value)
        for right in (six[:5], six[1:], OFFERS, OFFERS[:1], (('till', 'once', 9),)):
            self.assertIn(cheapest_ways(House(LOOSE), ('shop',), 'each', right)[0], ('choice', 'none'))

    def test_too_many_where_it_comes_to_it(self):
        """Of b for the second choice alone: what is ahead of it is told by fewer standings."""
        house = House('key x 2\npart a fresh\n  read x\n  read x\npart b kept\n' + '  read x\n' * 7 + '  take')
        once = house.with_ways(('once', 'kept'))
        many, few = [len(sees(once, part, 'one')[1]) for part in ('b', 'a')]
        self.assertGreater(many, few)
        with mock.patch.object(seeing, 'MOST_STANDINGS', many - 1):
            raises(self, TooMany, many - 1, sees, house, 'b', 'one')
            # Without a choice a breaks the manner: so b is not come to. With it a keeps it, and b is.
            raises(self, TooMany, many - 1, cheapest_ways, house, ('a', 'b'), 'one', (('a', 'once', 1),))
            self.assertEqual(cheapest_ways(house, ('a',), 'one', (('a', 'once', 1),))[:2], ('choice', 1))
            self.assertEqual(cheapest_ways(house, ('a', 'b'), 'one', (('b', 'handed', 1),))[0], 'none')
        with mock.patch.object(seeing, 'MOST_STANDINGS', many):
            told = cheapest_ways(house, ('a', 'b'), 'one', (('a', 'once', 1),))
            self.assertEqual(told[:2], ('choice', 1))
        with mock.patch.object(seeing, 'MOST_STANDINGS', 1):
            self.assertIs(shows_cheapest_ways(house, ('a', 'b'), 'one', (('a', 'once', 1),), told), True)


class ShowsTest(unittest.TestCase):
    def shows(self, value, wanted, text=LOOSE, parts=('shop',), manner='one', offers=OFFERS):
        self.assertIs(shows_cheapest_ways(House(text), parts, manner, offers, value), wanted, value)

    def test_wrong_in_one_thing(self):
        for offers in (OFFERS, OFFERS[1:]):
            told = cheapest_ways(House(LOOSE), ('shop',), 'one', offers)
            self.shows(told, True, offers=offers)
            for value in leaf_changes(told):
                self.shows(value, self.is_right(value, offers), offers=offers)

    def is_right(self, value, offers):
        """Whether a value is right by what shows_sees tells of each thing in it."""
        house = House(LOOSE)
        if not isinstance(value, tuple) or value[:1] not in (('choice',), ('none',)) or 'True' in repr(value) or 'False' in repr(value):
            return False
        choices = all_choices(offers)
        if value[0] == 'choice':
            if len(value) != 5 or value[2] not in choices or value[1] != sum([offer[2] for offer in value[2]]):
                return False
            if not isinstance(value[3], tuple) or len(value[3]) != 1:
                return False
            if not shows_sees(changed(house, value[2]), 'shop', 'one', ('always', value[3][0])):
                return False
            choices = choices[:choices.index(value[2])]
        if len(value) != (2 if value[0] == 'none' else 5) or not isinstance(value[-1], tuple) or len(value[-1]) != len(choices):
            return False
        for choice, row in zip(choices, value[-1]):
            if not isinstance(row, tuple) or len(row) != 3 or row[:2] != (choice, 'shop'):
                return False
            if not shows_sees(changed(house, choice), 'shop', 'one', ('breaks', row[2])):
                return False
        return True

    def test_rows_left_out_twice_and_exchanged(self):
        told = cheapest_ways(House(LOOSE), ('shop',), 'one', OFFERS)
        word, price, choice, tables, reasons = told
        for value in (
            (word, price, choice, tables, reasons[:1]), (word, price, choice, tables, reasons[::-1]), (word, price, choice, tables, (*reasons, reasons[0])),
            (word, price, choice, tables, ()), (word, price, choice, (), reasons), (word, price, choice, tables * 2, reasons),
            (word, price + 1, choice, tables, reasons), (word, 1, (('till', 'once', 1),), tables, reasons[:1]), (word, 0, (), tables, ()),
            (word, 3, OFFERS, tables, reasons), (word, price, tables, choice, reasons), ('none', reasons), ('none', price, choice, tables, reasons),
            (word, price, choice, tables), (word, price, choice, tables, reasons, ()), [*told], told[1:], (word, True, choice, tables, reasons),
        ):
            self.shows(value, False)

    def test_other_tables_and_runs(self):
        """Longer runs, greater tables, and any of the parts that break it."""
        text = 'key x 2\npart a fresh\n  take\n  take\n  loop\n    read x\npart b fresh\n  read x\n  read x'
        offers = (('a', 'once', 1), ('b', 'once', 1))
        house = House(text)
        told = cheapest_ways(house, ('a', 'b'), 'one', offers)
        self.assertEqual([row[1] for row in told[4]], ['a', 'b', 'a'])
        run = sees(house, 'b', 'one')[1]
        run = (*run[:2], (('install', (0,)), *run[2]))
        self.assertIs(shows_sees(house, 'b', 'one', ('breaks', run)), True)
        other = (((), 'b', run), *told[4][1:])
        self.shows((*told[:4], other), True, text, ('a', 'b'), offers=offers)
        self.shows((*told[:4], (((), 'c', run), *told[4][1:])), False, text, ('a', 'b'), offers=offers)
        self.shows((*told[:4], (((), 'a', run), *told[4][1:])), False, text, ('a', 'b'), offers=offers)
        house = House('key x 2\npart a once\n  take\n  end\n  take\n  take')
        small = sees(house, 'a', 'one')[1]
        greater = tuple(sorted([*small, *[(((line, *row[0][0][1:]),), *row[1:]) for row in small for line in (4, 5)]]))
        offers = (('a', 'fresh', 1),)
        for table, is_right in ((small, True), (greater, True), (greater[1:], False), (greater[::-1], False)):
            self.shows(('choice', 0, (), (table,), ()), is_right, house.text, ('a',), offers=offers)

    def test_of_several_parts(self):
        house = House('key x 2\npart a once\n  read x\npart b handed\n  read x\n  read x')
        offers = (('a', 'kept', 1),)
        told = cheapest_ways(house, ('a', 'b'), 'one', offers)
        self.shows(told, True, house.text, ('a', 'b'), offers=offers)
        self.shows((*told[:3], told[3][::-1], told[4]), False, house.text, ('a', 'b'), offers=offers)
        self.shows((*told[:3], told[3][:1], told[4]), False, house.text, ('a', 'b'), offers=offers)

    def test_what_is_no_result(self):
        for value in no_results(['choice', 'none']):
            self.shows(value, False)
            self.shows(('choice', 2, OFFERS[:1], value, ()), False)
            self.shows(('choice', value, OFFERS[:1], (), ()), False)


if __name__ == '__main__':
    unittest.main()
