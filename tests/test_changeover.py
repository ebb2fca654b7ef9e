"""changeover, beside a plain search through rows of deeds, one by one."""

import random
import unittest

from plain_changes import ends_well as plain_ends_well
from plain_changes import fewest, least_row
from plain_houses import some_texts
from plain_runs import Home
from samples import raises, strange_values

from settledreads.changing import changeover, ends_well, mix
from settledreads.errors import BadEdition, BadManner, BadParts, BadPrices
from settledreads.houses import House

COUNTER = 'key x 2\nkey y 2\npart front once\n  read y\n  ask left\npart left kept\n  read x'
OLD, NEW = (0, 0), (1, 1)
CLEAN = (('close', 'front'), ('install',), ('wait',), ('renew', 'left'), ('open', 'front'))
# Works of a and of b may read both keys of unlike editions, where one is begun anew and the other is not.
PAIR = 'key x 2\nkey y 2\npart a fresh\n  ask l\n  ask r\npart b handed\n  ask r\n  ask l\npart l kept\n  read x\npart r kept\n  read y'


class ChangeoverTest(unittest.TestCase):
    def check(self, text, doors, old, new, manner, prices, most=1500):
        """What changeover tells is the first row that the search comes to, where this does not go on too long."""
        home, house = Home(text), House(text)
        wanted = least_row(home, doors, old, new, manner, prices, most)
        told = changeover(house, doors, old, new, manner, prices)
        self.assertEqual((told.__class__, len(told), told[0].__class__, told[1].__class__), (tuple, 2, int, tuple))
        self.assertIsNone(mix(house, doors, old, new, manner, told[1]))
        self.assertIs(ends_well(house, doors, old, new, told[1]), True)
        if wanted is not None:
            self.found += 1
            self.assertEqual(told, wanted, (text, doors, old, new, manner, prices))
        return told

    def setUp(self):
        self.found = 0

    def test_random_houses(self):
        source = random.Random(111)
        seen = {}
        for text in some_texts(112, 260, 6):
            home = Home(text)
            many = min(len(home.parts), 4 - len(home.kept_parts))
            if many < 1:
                continue
            doors = tuple(sorted(source.sample(home.parts, source.randint(1, min(2, many)))))
            old, new = source.choice(home.sheet.editions), source.choice(home.sheet.editions)
            highest = source.choice([1, 2, 3])
            prices = (
                tuple([source.randint(1, highest) for _ in home.kept_parts]), tuple([source.randint(1, highest) for _ in doors]),
                source.randint(1, highest),
            )
            for manner in ('each', 'one'):
                told = self.check(text, doors, old, new, manner, prices, 400)
                row = seen.setdefault(manner, [])
                row.append((len(told[1]), ('wait',) in told[1], 'renew' in [deed[0] for deed in told[1]]))
        self.assertGreater(self.found, 400)
        for manner in ('each', 'one'):
            self.assertGreater(len([1 for many, _, _ in seen[manner] if many > 3]), 3)
            self.assertEqual({row[1:] for row in seen[manner]} >= {(False, False), (False, True), (True, False)}, True)

    def test_by_hand(self):
        one = ((1,), (1,), 1)
        self.assertEqual(self.check(COUNTER, ('front',), OLD, NEW, 'one', one), (3, CLEAN))
        self.assertEqual(self.check(COUNTER, ('front',), OLD, NEW, 'each', one), (1, (('install',), ('renew', 'left'))))
        self.assertEqual(self.check(COUNTER, ('front',), OLD, (0, 1), 'one', one), (0, (('install',),)))
        self.assertEqual(self.check(COUNTER, ('front',), OLD, (1, 0), 'one', one), (1, (('install',), ('renew', 'left'))))
        self.assertEqual(self.check(COUNTER, ('front', 'left'), OLD, NEW, 'one', ((1,), (1, 1), 1)), (3, CLEAN))

    def test_old_and_new_alike(self):
        """Installing is wanted all the same."""
        for manner in ('each', 'one'):
            for edition in ((0, 0), (1, 0), (1, 1)):
                self.assertEqual(self.check(COUNTER, ('front', 'left'), edition, edition, manner, ((9,), (9, 9), 9)), (0, (('install',),)))

    def test_prices_of_each_kind(self):
        for price in range(1, 10):
            self.assertEqual(changeover(House(COUNTER), ('front',), OLD, NEW, 'one', ((price,), (1,), 1)), (price + 2, CLEAN))
            self.assertEqual(changeover(House(COUNTER), ('front',), OLD, NEW, 'one', ((1,), (price,), 1)), (price + 2, CLEAN))
            self.assertEqual(changeover(House(COUNTER), ('front',), OLD, NEW, 'one', ((1,), (1,), price)), (price + 2, CLEAN))

    def test_kept_parts_and_two_doors(self):
        """Either way both doors must be closed; the prices of each part and of each door count."""
        prices = ((2, 3), (4, 5), 6)
        told = changeover(House(PAIR), ('a', 'b'), OLD, NEW, 'one', prices)
        self.assertEqual(told[0], 20)
        self.assertEqual(sorted(told[1]), sorted([
            ('close', 'a'), ('close', 'b'), ('install',), ('wait',), ('renew', 'l'), ('renew', 'r'), ('open', 'a'), ('open', 'b'),
        ]))
        self.assertEqual(told, changeover(House(PAIR), ('a', 'b'), OLD, NEW, 'one', prices))
        self.assertEqual(changeover(House(PAIR), ('a', 'b'), OLD, NEW, 'each', prices), (5, (('install',), ('renew', 'l'), ('renew', 'r'))))
        self.assertEqual(changeover(House(PAIR), ('a',), OLD, (1, 0), 'one', ((2, 3), (4,), 6)), (2, (('install',), ('renew', 'l'))))
        self.assertEqual(changeover(House(PAIR), ('l',), OLD, NEW, 'one', ((2, 3), (4,), 6)), (2, (('install',), ('renew', 'l'))))

    def test_kept_parts_that_are_doors(self):
        text = 'key x 2\nkey y 2\npart l kept\n  read x\n  ask r\npart r kept\n  read y'
        for prices in (((1, 1), (1, 1), 1), ((1, 2), (3, 1), 1)):
            told = self.check(text, ('l', 'r'), OLD, NEW, 'one', prices)
            self.assertNotIn(('close', 'r'), told[1])
            self.assertIn(('close', 'l'), told[1])

    def test_least_of_equal_price_and_number(self):
        """Rows that differ in their sequence alone: the least one as Python sorts."""
        text = 'key x 2\npart a kept\n  read x\npart b kept\n  read x'
        told = self.check(text, ('a', 'b'), (0,), (1,), 'one', ((1, 1), (1, 1), 1))
        self.assertEqual(told, (2, (('install',), ('renew', 'a'), ('renew', 'b'))))
        text = 'key x 2\npart b kept\n  read x\npart a kept\n  read x'
        told = self.check(text, ('a', 'b'), (0,), (1,), 'one', ((5, 1), (1, 1), 1))
        self.assertEqual(told, (6, (('install',), ('renew', 'a'), ('renew', 'b'))))

    def test_closing_alone_may_do(self):
        """What waits for nothing: a part that takes reads one edition at once, but for works that begin."""
        text = 'key x 2\nkey y 2\npart a fresh\n  read x\n  read y'
        for manner in ('each', 'one'):
            told = self.check(text, ('a',), OLD, NEW, manner, ((), (3,), 2))
            self.assertEqual(told, (5, (('close', 'a'), ('wait',), ('install',), ('open', 'a'))))
            self.assertEqual(self.check(text.replace('fresh', 'once'), ('a',), OLD, NEW, manner, ((), (3,), 2)), (0, (('install',),)))

    def test_longer_rows_are_least_of_all(self):
        """No row of a lesser price, and none of as many deeds that is less, is clean and ends well."""
        home = Home(COUNTER)
        for deeds in ((('close', 'front'), ('install',), ('renew', 'left'), ('open', 'front')), (('install',), ('wait',), ('renew', 'left'))):
            self.assertIsNotNone(fewest(home, ('front',), OLD, NEW, 'one', deeds))
            self.assertIs(plain_ends_well(home, ('front',), OLD, NEW, deeds), True)

    def test_over_as_it_begins(self):
        self.assertEqual(changeover(House('key x 2\npart a kept\n  end\n  read x'), ('a',), (0,), (1,), 'one', ((1,), (1,), 1)), (0, (('install',),)))

    def test_four_doors(self):
        text = 'key x 2\nkey y 2\npart a fresh\n  read x\n  ask b\npart b fresh\n  read y\n  ask c\npart c fresh\n  read x\n  ask d\npart d handed\n  read y'
        told = changeover(House(text), ('a', 'b', 'c', 'd'), OLD, NEW, 'one', ((), (1, 2, 3, 4), 5))
        # d reads y alone: so it need not be closed.
        self.assertEqual(told[0], 11)
        self.assertEqual(told[1], (
            ('close', 'a'), ('close', 'b'), ('close', 'c'), ('wait',), ('install',), ('open', 'a'), ('open', 'b'), ('open', 'c'),
        ))


class ErrorTest(unittest.TestCase):
    GOOD = ((1,), (1,), 1)

    def raises(self, kind, value, *rest):
        raises(self, kind, value, changeover, House(COUNTER), *rest)

    def test_errors_in_sequence(self):
        for value in strange_values() + [('left', 'front'), ('front', 'front'), ['front'], 'front']:
            self.raises(BadParts, value, value, OLD, NEW, 'one', self.GOOD)
            self.raises(BadParts, value, value, None, None, None, None)
        for value in strange_values() + [(0,), (0, 2), [0, 0], (0, True)]:
            self.raises(BadEdition, value, ('front',), value, NEW, 'one', self.GOOD)
            self.raises(BadEdition, value, ('front',), value, None, None, None)
            self.raises(BadEdition, value, ('front',), OLD, value, 'one', self.GOOD)
            self.raises(BadEdition, value, ('front',), OLD, value, None, None)
        for value in strange_values() + ['forward', 'begun', 'lawful', 'present', 'One']:
            self.raises(BadManner, value, ('front',), OLD, NEW, value, self.GOOD)
            self.raises(BadManner, value, ('front',), OLD, NEW, value, None)

    def test_prices(self):
        wrong = [
            ((1,), (1,)), ((1,), (1,), 1, 1), ((), (1,), 1), ((1, 1), (1,), 1), ((1,), (), 1), ((1,), (1, 1), 1), ([1], (1,), 1), ((1,), [1], 1),
            [(1,), (1,), 1], (1, (1,), 1), ((1,), 1, 1), ((1,), (1,), (1,)), (1, 1, 1), ((1,), (1,), None),
        ]
        for bad in (0, 10, -1, True, None, '1', (1,), 1.0):
            wrong += [((bad,), (1,), 1), ((1,), (bad,), 1), ((1,), (1,), bad)]
        for value in strange_values() + wrong:
            self.raises(BadPrices, value, ('front',), OLD, NEW, 'one', value)
        self.assertEqual(changeover(House(COUNTER), ('front',), OLD, NEW, 'one', ((9,), (9,), 9))[0], 27)

    def test_arguments_by_name(self):
        told = changeover(prices=self.GOOD, manner='one', new=NEW, old=OLD, doors=('front',), house=House(COUNTER))
        self.assertEqual(told, (3, CLEAN))


if __name__ == '__main__':
    unittest.main()
