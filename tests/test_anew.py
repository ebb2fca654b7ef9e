"""anew, beside a plain search through sets and whole histories of steps."""

import random
import unittest

from plain_anew import MANNERS, breaks_at_last, kept_with, plain_anew
from plain_houses import some_texts
from plain_runs import Home
from samples import raises, strange_values

from settledreads.anew import anew, shows_anew
from settledreads.errors import BadEditions, BadKept, BadManner, BadParts, BadPrices
from settledreads.houses import House

DESKS = 'key x 2\nkey y 2\npart front fresh\n  ask left\n  ask right\npart left kept\n  read x\npart right kept\n  read y'
OLDER = (((0, 0), (1, 1)), (0, 0))


def random_keeping(source, home):
    """(editions, kept) as a run may have them, some editions with the same worths."""
    numbers = [source.randint(0, 2) for _ in home.kept_parts]
    elder = sorted(set(numbers))
    kept = tuple([elder.index(number) for number in numbers])
    many = max(1, len(elder)) + (source.random() < 0.5 and bool(elder))
    return tuple([source.choice(home.sheet.editions) for _ in range(many)]), kept


class AnewTest(unittest.TestCase):
    def check(self, text, parts, editions, kept, manner, prices):
        """What anew tells is what the search tells."""
        home, house = Home(text), House(text)
        wanted = plain_anew(home, parts, editions, kept, manner, prices)
        told = anew(house, parts, editions, kept, manner, prices)
        self.assertEqual((told.__class__, len(told)), (tuple, 4))
        self.assertEqual(told[:3], wanted[:3], (text, parts, editions, kept, manner, prices))
        rows = [(names, part, len(steps)) for names, part, steps in told[3]]
        self.assertEqual(rows, wanted[3], (text, parts, editions, kept, manner, prices))
        for names, part, steps in told[3]:
            self.assertIs(breaks_at_last(home, part, manner, editions, kept_with(home, editions, kept, names), steps), True)
            self.assertEqual({step.__class__ for step in steps}, {int})
        self.assertIs(shows_anew(house, parts, editions, kept, manner, prices, told), True)
        return told

    def test_random_houses(self):
        source = random.Random(81)
        seen = {}
        for text in some_texts(82, 160, 6) + some_texts(83, 60, 10):
            home = Home(text)
            names = sorted(home.parts)
            for manner in MANNERS:
                editions, kept = random_keeping(source, home)
                parts = tuple(sorted(source.sample(names, source.randint(1, len(names)))))
                prices = tuple([source.randint(1, 9) for _ in home.kept_parts])
                told = self.check(text, parts, editions, kept, manner, prices)
                seen.setdefault(manner, []).append((len(told[1]), len(told[3])))
        for manner in MANNERS:
            self.assertLessEqual({0} if manner == 'each' else {0, 1}, {many for many, _ in seen[manner]}, manner)
            self.assertGreater(max([many for _, many in seen[manner]]), -1 if manner == 'each' else 1)
        self.assertGreater(len([1 for many, _ in seen['present'] if many > 1]), 3)

    def test_by_hand(self):
        for manner in MANNERS:
            told = self.check(DESKS, ('front',), OLDER[0], OLDER[1], manner, (1, 1))
            self.assertEqual(told[:2], (2, ('left', 'right')) if manner in ('begun', 'present') else (0, ()))
        direct = DESKS.replace('fresh\n', 'fresh\n  read x\n')
        told = self.check(direct, ('front',), OLDER[0], OLDER[1], 'one', (1, 1))
        self.assertEqual([row[:2] for row in told[3]], [((), 'front'), (('left',), 'front'), (('right',), 'front')])
        self.assertEqual(self.check(direct, ('left', 'right'), OLDER[0], OLDER[1], 'one', (1, 1))[:2], (0, ()))

    def test_the_sequence_of_sets(self):
        """By price, then by how many, then as tuples: of equal prices the one with fewer parts."""
        text = 'key x 2\npart d kept\n  read x\n  ask b\n  ask a\n  ask c\npart b kept\n  read x\npart a kept\n  read x\npart c kept\n  read x'
        told = self.check(text, ('d',), ((0,), (1,)), (0, 0, 0, 0), 'present', (3, 1, 2, 3))
        self.assertEqual(told[:2], (9, ('a', 'b', 'c', 'd')))
        self.assertEqual([row[0] for row in told[3]], [
            (), ('b',), ('a',), ('c',), ('d',), ('a', 'b'), ('b', 'c'), ('b', 'd'), ('a', 'c'), ('a', 'd'), ('c', 'd'), ('a', 'b', 'c'),
            ('a', 'b', 'd'), ('b', 'c', 'd'), ('a', 'c', 'd'),
        ])

    def test_prices_choose(self):
        """Both sides read x: either may be begun anew so that all is of one edition, or neither."""
        text = 'key x 2\npart top kept\n  read x\n  ask low\npart low kept\n  read x'
        editions = ((0,), (1,), (0,))
        self.assertEqual(self.check(text, ('top',), editions, (0, 1), 'one', (1, 1))[:2], (2, ('low', 'top')))
        two = ((0,), (1,))
        self.assertEqual(self.check(text, ('top',), two, (0, 1), 'one', (4, 1))[:2], (4, ('top',)))
        self.assertEqual(self.check(text, ('top',), two, (1, 0), 'one', (4, 1))[:2], (1, ('low',)))
        self.assertEqual(self.check(text, ('top',), two, (1, 0), 'forward', (1, 9))[:2], (9, ('low',)))

    def test_each_opening_by_itself(self):
        """A part that is handed the elder edition, and takes the present one amid."""
        text = 'key x 2\npart a kept\n  ask b\npart b handed\n  read x\n  take\n  read x'
        told = self.check(text, ('a', 'b'), ((1,), (1,)), (0,), 'each', (7,))
        self.assertEqual((told[:2], told[3]), ((7, ('a',)), (((), 'a', (0, 0, 0, 0)),)))
        self.assertEqual(self.check(text, ('b',), ((1,), (1,)), (0,), 'each', (7,))[:2], (0, ()))
        self.assertEqual({row[0][-1][2] for row in told[2][1]}, {-1, 1})

    def test_a_kept_part_that_no_work_comes_to(self):
        text = 'key x 2\npart a fresh\n  read x\n  ask c\npart b kept\n  read x\npart c kept\n  read x'
        for manner in MANNERS:
            told = self.check(text, ('a',), ((0,), (1,)), (0, 0), manner, (1, 9))
            self.assertNotIn('b', told[1])
        self.assertEqual(self.check(text, ('a', 'b'), ((0,), (1,)), (0, 0), 'present', (1, 9))[:2], (10, ('b', 'c')))

    def test_editions_with_the_same_worths(self):
        """They are unlike ones all the same, but for what hangs on worths alone."""
        text = 'key x 2\npart a fresh\n  read x\n  ask b\npart b kept\n  read x'
        told = {manner: self.check(text, ('a',), ((1,), (1,)), (0,), manner, (5,))[:2] for manner in MANNERS}
        anew_all, nothing = (5, ('b',)), (0, ())
        self.assertEqual(told, {'begun': anew_all, 'each': nothing, 'forward': anew_all, 'lawful': nothing, 'one': anew_all, 'present': nothing})

    def test_over_as_it_begins(self):
        told = self.check('key x 2\npart a kept\n  end\n  read x', ('a',), ((0,), (1,)), (0,), 'present', (1,))
        self.assertEqual(told, (0, (), ((),), ()))

    def test_marks_and_owns(self):
        """Editions have the numbers that they have in the row of them, held or not."""
        text = 'key x 2\npart a handed\n  take\n  ask b\n  read x\npart b kept\n  read x\npart c kept\n  end'
        editions = ((0,), (1,), (1,))
        self.assertEqual(self.check(text, ('b',), editions, (1, 0), 'one', (1, 1))[2], (((((6, -1, -1),), -1),),))
        self.assertEqual(self.check(text, ('b',), editions, (1, 0), 'forward', (1, 1))[2], (((((6, -1, -1),), 0),),))
        table = self.check(text, ('a',), editions, (1, 0), 'forward', (1, 1))[2][0]
        self.assertEqual(table, (
            (((2, 2, -1),), 0), (((3, 2, -1),), 0), (((3, 2, -1), (6, -1, -1)), 0), (((4, 2, -1),), 1),
        ))
        table = self.check(text.replace('  end', '  read x\n  take'), ('c',), editions, (1, 0), 'each', (1, 1))[2][0]
        self.assertEqual(table, ((((8, -1, -1),), -1), (((9, -1, 0),), -1)))
        told = self.check(text, ('a',), editions, (1, 0), 'begun', (1, 1))
        self.assertEqual((told[1], {row[1] for row in told[2][0]}), (('b',), {2}))
        self.assertEqual({row[1] for row in self.check(text, ('a',), editions, (1, 0), 'lawful', (1, 1))[2][0]}, {(-1,), (1,)})


class ErrorTest(unittest.TestCase):
    def both(self, kind, value, *rest):
        house = House(DESKS)
        raises(self, kind, value, anew, house, *rest)
        for told in (None, (0, (), ((),), ()), (2, ('left', 'right'), (), ())):
            raises(self, kind, value, shows_anew, house, *rest, told)

    def test_parts(self):
        for value in strange_values() + [('left', 'front'), ('left', 'left'), ('front', 'x'), ['front'], 'front']:
            self.both(BadParts, value, value, *OLDER, 'one', (1, 1))
            self.both(BadParts, value, value, None, None, None, None)

    def test_editions(self):
        wrong = [(), ((0, 0), (2, 0)), ((0,),), ((0, 0, 0),), [(0, 0)], ([0, 0],), ((0, True),), ((0, -1),), (0, 0), ((0, None),)]
        for value in strange_values() + wrong:
            self.both(BadEditions, value, ('front',), value, (0, 0), 'one', (1, 1))
            self.both(BadEditions, value, ('front',), value, None, None, None)
        barred = House('key x 2\nkey y 2\nrule x = 0 or y = 0\npart a fresh\n  read x')
        raises(self, BadEditions, ((1, 1),), anew, barred, ('a',), ((1, 1),), (), 'one', ())

    def test_kept(self):
        wrong = [(0,), (0, 0, 0), (0, 2), (-1, 0), [0, 0], (0, True), (0, None), (1, 1), ((0, 0),)]
        for value in strange_values() + wrong:
            self.both(BadKept, value, ('front',), OLDER[0], value, 'one', (1, 1))
            self.both(BadKept, value, ('front',), OLDER[0], value, None, None)
        self.both(BadKept, (0, 2), ('front',), ((0, 0), (0, 1), (1, 1)), (0, 2), 'one', (1, 1))
        self.assertEqual(anew(House(DESKS), ('front',), ((0, 0), (1, 1), (0, 1)), (1, 0), 'each', (1, 1))[:2], (0, ()))

    def test_manners(self):
        for value in strange_values() + ['One', 'alike', ('one',), ['one'], 'present ']:
            self.both(BadManner, value, ('front',), *OLDER, value, (1, 1))
            self.both(BadManner, value, ('front',), *OLDER, value, None)

    def test_prices(self):
        wrong = [(1,), (1, 1, 1), (0, 1), (1, 10), [1, 1], (1, True), (1, None), (1, '1'), ((1, 1),), (1, -1)]
        for value in strange_values() + wrong:
            self.both(BadPrices, value, ('front',), *OLDER, 'one', value)
        for prices in ((1, 9), (9, 1)):
            self.assertEqual(anew(House(DESKS), ('front',), *OLDER, 'present', prices)[0], 10)

    def test_arguments_by_name(self):
        told = anew(prices=(1, 1), manner='one', kept=(0, 0), editions=OLDER[0], parts=('front',), house=House(DESKS))
        self.assertEqual(told, anew(House(DESKS), ('front',), *OLDER, 'one', (1, 1)))
        self.assertIs(shows_anew(
            value=told, prices=(1, 1), manner='one', kept=(0, 0), editions=OLDER[0], parts=('front',), house=House(DESKS),
        ), True)


if __name__ == '__main__':
    unittest.main()
