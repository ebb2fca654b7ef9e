"""shows_anew: greater tables, other steps and parts, what is wrong in one thing, and what is no result."""

import itertools
import random
import unittest

from plain_anew import MANNERS, all_forms, all_sets, breaks_at_last, closure_of, greatest_table, kept_with, standing_of
from plain_runs import Home, begun
from test_anew import DESKS, OLDER, random_keeping
from test_shows_sees import tiny_texts
from wrong_things import leaf_changes, no_results, table_changes

from settledreads.anew import anew, shows_anew
from settledreads.houses import House

DIRECT = DESKS.replace('fresh\n', 'fresh\n  read x\n')
TAKES = 'key x 2\npart a handed\n  take\n  ask b\n  read x\npart b kept\n  read x\npart c once\n  choose\n    way\n      read x\n    way\n      end'


class ShowsCase(unittest.TestCase):
    def shows(self, text, rest, value, wanted):
        self.assertIs(shows_anew(House(text), *rest, value), wanted, (text, rest, value))


class TableTest(ShowsCase):
    def test_greatest_tables(self):
        source = random.Random(91)
        greater = set()
        for text in [*tiny_texts(92, 40), TAKES]:
            home, house = Home(text), House(text)
            part = source.choice(home.parts)
            for manner in MANNERS:
                editions, kept = random_keeping(source, home)
                prices = (1,) * len(home.kept_parts)
                rest = ((part,), editions, kept, manner, prices)
                told = anew(house, *rest)
                now = kept_with(home, editions, kept, told[1])
                good, bad = greatest_table(home, home.parts.index(part), manner, editions, now)
                job = begun(home, home.parts.index(part), editions, now)
                found = closure_of(home, manner, editions, now, [standing_of(home, manner, job)] if job.stack else [])
                self.assertEqual(told[2], (tuple(sorted(found)),))
                self.shows(text, rest, (*told[:2], (tuple(sorted(good)),), told[3]), True)
                for other in source.sample(sorted(bad), min(5, len(bad))):
                    self.shows(text, rest, (*told[:2], (tuple(sorted({*good, other})),), told[3]), False)
                rows = sorted(good - found)
                for other in source.sample(rows, min(4, len(rows))):
                    greater.add(manner)
                    more = found | closure_of(home, manner, editions, now, [other])
                    self.shows(text, rest, (*told[:2], (tuple(sorted(more)),), told[3]), True)
                    self.shows(text, rest, (*told[:2], (tuple(sorted({*found, other})),), told[3]), more == {*found, other})
        self.assertEqual(greater, set(MANNERS))

    def test_tables_wrong_in_one_thing(self):
        for manner in MANNERS:
            rest = (('a', 'c'), ((0,), (1,)), (0,), manner, (3,))
            home, told = Home(TAKES), anew(House(TAKES), *rest)
            now = kept_with(home, rest[1], rest[2], told[1])
            self.shows(TAKES, rest, told, True)
            for at, table in enumerate(told[2]):
                for other in table_changes(table):
                    is_right = self.is_table(home, manner, rest[0][at], rest[1], now, other)
                    tables = (*told[2][:at], other, *told[2][at + 1:])
                    self.shows(TAKES, rest, (*told[:2], tables, told[3]), is_right)

    def is_table(self, home, manner, part, editions, kept, value):
        """Whether a value is a closed table by the greatest one: some changes give a greater one."""
        if not isinstance(value, tuple):
            return False
        number = home.parts.index(part)
        forms = {repr(form) for form in all_forms(home, number, manner, editions)}
        if not all([repr(row) in forms for row in value]) or list(value) != sorted(set(value)):
            return False
        job = begun(home, number, editions, kept)
        good, _ = greatest_table(home, number, manner, editions, kept)
        rows = {standing_of(home, manner, job)} | set(value)
        return set(value) <= good and closure_of(home, manner, editions, kept, rows) == set(value)

    def test_no_other_forms(self):
        """A closed table with a member that is no standing by its form, ahead of the others and behind them."""
        for manner in MANNERS:
            rest = (('a',), ((0,), (1,)), (0,), manner, (3,))
            home, house = Home(TAKES), House(TAKES)
            told = anew(house, *rest)
            forms = {repr(form) for form in all_forms(home, 0, manner, rest[1])}
            good = sorted(greatest_table(home, 0, manner, rest[1], kept_with(home, rest[1], rest[2], told[1]))[0])
            for row in good[::max(1, len(good) // 4)]:
                for other in leaf_changes(row):
                    if repr(other) not in forms:
                        for table in ((other, *good), (*good, other)):
                            self.shows(TAKES, rest, (*told[:2], (table,), told[3]), False)

    def test_marks_and_owns_that_cannot_be(self):
        """Where nothing is read any would be closed: so their form alone is asked. -2 does not come."""
        text = 'key x 2\npart a once\n  take\n  take\npart b kept\n  end'
        editions = ((0,), (1,))
        for manner in ('begun', 'each', 'forward', 'one', 'present'):
            rest = (('a',), editions, (0,), manner, (1,))
            told = anew(House(text), *rest)
            self.assertEqual(told[:2], (0, ()))
            for own, mark in itertools.product((-3, -2, -1, 0, 1, 2), repeat=2):
                is_right = mark in {'begun': (0, 1), 'forward': (0, 1), 'one': (-1, 0, 1)}.get(manner, (-1,))
                is_right = is_right and own in ((-1, 0, 1) if manner == 'each' else (-1,))
                rows = {*told[2][0], (((3, 0, own),), mark), (((3, 1, own),), mark)}
                self.shows(text, rest, (0, (), (tuple(sorted(rows)),), ()), is_right)


class ReasonTest(ShowsCase):
    REST = (('front',), *OLDER, 'one', (1, 1))

    def test_wrong_in_one_thing(self):
        told = anew(House(DIRECT), *self.REST)
        self.shows(DIRECT, self.REST, told, True)
        for value in leaf_changes(told):
            self.shows(DIRECT, self.REST, value, self.is_right(value))

    def is_right(self, value):
        """Whether what was changed is right all the same: other steps that break the manner, too."""
        told = anew(House(DIRECT), *self.REST)
        if not isinstance(value, tuple) or len(value) != 4 or repr(value[:2]) != repr(told[:2]) or repr(value[2]) != repr(told[2]):
            return False
        if not isinstance(value[3], tuple) or len(value[3]) != len(told[3]):
            return False
        home = Home(DIRECT)
        for row, wanted in zip(value[3], told[3]):
            if not isinstance(row, tuple) or len(row) != 3 or repr(row[:2]) != repr(wanted[:2]) or not isinstance(row[2], tuple):
                return False
            if not all([step.__class__ is int for step in row[2]]):
                return False
            if not breaks_at_last(home, 'front', 'one', OLDER[0], kept_with(home, *OLDER, row[0]), row[2]):
                return False
        return True

    def test_other_steps_and_parts(self):
        """Longer ones, and any of the parts that break it."""
        text = 'key x 2\npart a fresh\n  loop\n    read x\n    ask c\npart b fresh\n  read x\n  ask c\npart c kept\n  read x'
        rest = (('a', 'b'), ((0,), (1,)), (0,), 'one', (4,))
        told = anew(House(text), *rest)
        self.assertEqual((told[:2], [row[:2] for row in told[3]]), ((4, ('c',)), [((), 'a')]))
        self.assertEqual(told[3][0][2], (1, 0, 0, 0))
        for part, steps, is_right in (
            ('a', (1, 0, 0, 0), True), ('b', (0, 0, 0), True), ('b', (1, 0, 0, 0), False), ('a', (0, 0, 0), False), ('a', (1, 0, 0, 0, 1), False),
            ('a', (1, 0, 0, 0, 1, 0), False), ('a', (1, 0, 0), False), ('a', (), False), ('c', (0,), False), ('c', (), False), ('x', (0,), False),
            ('a', [1, 0, 0, 0], False), ('a', (True, 0, 0, 0), False), ('a', (1, 0, False, 0), False), ('a', (1, 0, 0, None), False),
            ('a', (2, 0, 0, 0), False), ('a', (-1, 0, 0, 0), False), ('a', (('step', 1),), False), ('a', None, False), ('a', 1, False),
        ):
            self.shows(text, rest, (*told[:3], (((), part, steps),)), is_right)
        longer = 'key x 2\npart a fresh\n  loop\n    take\n  read x\n  ask c\npart c kept\n  read x'
        rest = (('a',), *rest[1:])
        told = anew(House(longer), *rest)
        for steps in ((0, 0, 0, 0), (1, 0, 0, 0, 0, 0), (1, 0, 1, 0, 0, 0, 0, 0)):
            home = Home(longer)
            self.shows(longer, rest, (*told[:3], (((), 'a', steps),)), breaks_at_last(home, 'a', 'one', rest[1], (0,), steps))

    def test_steps_of_a_work_that_is_over_as_it_begins(self):
        text = 'key x 2\npart a once\n  end\npart b fresh\n  read x\n  ask c\npart c kept\n  read x'
        rest = (('a', 'b'), ((0,), (1,)), (0,), 'one', (4,))
        told = anew(House(text), *rest)
        self.assertEqual((told[:2], told[2][0]), ((4, ('c',)), ()))
        for steps in ((), (0,), (0, 0, 0)):
            self.shows(text, rest, (*told[:3], (((), 'a', steps),)), False)
            self.shows(text, rest, (*told[:3], (((), 'b', steps),)), steps == (0, 0, 0))

    def test_rows_left_out_twice_and_exchanged(self):
        told = anew(House(DIRECT), *self.REST)
        price, names, tables, reasons = told
        for value in (
            (price, names, tables, reasons[1:]), (price, names, tables, reasons[:-1]), (price, names, tables, reasons[::-1]), (price, names, tables, ()),
            (price, names, tables, (*reasons, reasons[-1])), (price, names[::-1], tables, reasons), (price, names[:1], tables, reasons), (price, names, (), reasons),
            (price, names, tables * 2, reasons), (price - 1, names, tables, reasons), (1, ('left',), tables, reasons[:1]), (0, (), tables, ()),
            (price, names, tables), (price, names, tables, reasons, ()), [*told], told[::-1], ('choice', *told), (price, tables, names, reasons),
        ):
            self.shows(DIRECT, self.REST, value, False)

    def test_the_first_set_alone(self):
        """A dearer set, or one behind the first, keeps the manner too, and is not told."""
        text = 'key x 2\npart a fresh\n  read x\n  ask b\npart b kept\n  read x\npart c kept\n  end'
        rest = (('a',), ((0,), (1,)), (0, 0), 'one', (1, 1))
        told = anew(House(text), *rest)
        self.assertEqual(told[:2], (1, ('b',)))
        for price, names in all_sets(Home(text), (1, 1)):
            for reasons in (told[3], told[3][:1], (*told[3], *told[3])):
                self.shows(text, rest, (price, names, told[2], reasons), names == ('b',) and reasons == told[3])

    def test_prices_of_sets(self):
        told = anew(House(DIRECT), *self.REST[:4], (2, 3))
        self.assertEqual(told[0], 5)
        self.shows(DIRECT, (*self.REST[:4], (2, 3)), told, True)
        self.shows(DIRECT, (*self.REST[:4], (3, 2)), told, False)
        self.shows(DIRECT, (*self.REST[:4], (3, 3)), told, False)
        self.shows(DIRECT, (*self.REST[:4], (3, 3)), (6, *told[1:]), True)

    def test_what_is_no_result(self):
        told = anew(House(DIRECT), *self.REST)
        for value in no_results(['choice', 'none']):
            self.shows(DIRECT, self.REST, value, False)
            for at in range(4):
                self.shows(DIRECT, self.REST, (*told[:at], value, *told[at + 1:]), False)


if __name__ == '__main__':
    unittest.main()
