"""shows_sees: greater tables, tables wrong in one thing, all short runs, and what is no result."""

import itertools
import random
import unittest

from plain_houses import first_wrong, random_parts, sizes_of
from plain_runs import MANNERS, Home, all_runs, all_starts, is_broken, standing_of, told_by
from plain_tables import all_forms, all_knowns, closure_of, greatest_table, is_lawful
from wrong_things import leaf_changes, no_results, table_changes

from settledreads.houses import House
from settledreads.seeing import sees, shows_sees

SMALL = (
    'key x 2\npart a kept\n  if x = 0\n    read x\n  take',
    'key x 2\nkey y 2\nrule x = 0 or y = 0\npart a once\n  if y = 1\n    take\n  read x',
    'key x 2\npart b handed\n  ask a\n  take\npart a fresh\n  read x',
    'key x 2\npart b once\n  loop\n    ask a\npart a handed\n  end\n  read x',
    'key x 2\nrule x = 1\npart a fresh\n  read x\n  read x',
)


def tiny_texts(seed, count):
    """Texts of houses with few statements and few editions."""
    source = random.Random(seed)
    rows = []
    while len(rows) < count:
        sheet = source.choice(['key x 2', 'key x 2\nkey y 2\nrule x = 0 or y = 0', 'key x 2\nrule x = 1'])
        lines = random_parts(source, sizes_of(sheet), source.choice([1, 1, 2]), source.choice([2, 3, 4]))
        if first_wrong(sheet, lines) is None and len(lines) < 8:
            rows.append('\n'.join([sheet, *lines]))
    return rows


def cases(texts):
    for text in texts:
        home, house = Home(text), House(text)
        for part in home.parts:
            for manner in MANNERS:
                yield home, house, part, manner


def starts_of(home, part, manner):
    return {standing_of(home, manner, job) for job in all_starts(home, home.parts.index(part)) if job.stack}


class ShowsCase(unittest.TestCase):
    def shows(self, house, part, manner, value, wanted):
        self.assertIs(shows_sees(house, part, manner, value), wanted, (house.text, part, manner, value))


class TableTest(ShowsCase):
    def test_greatest_tables(self):
        greater = set()
        source = random.Random(2)
        for home, house, part, manner in cases([*SMALL, *tiny_texts(3, 25)]):
            if len(all_knowns(home, manner)) ** len(home.parts) > 100:
                continue
            good, bad = greatest_table(home, home.parts.index(part), manner)
            starts = starts_of(home, part, manner)
            word = 'always' if starts <= good else 'breaks'
            self.assertEqual(sees(house, part, manner)[0], word)
            self.shows(house, part, manner, ('always', tuple(sorted(good))), word == 'always')
            for other in source.sample(sorted(bad), min(8, len(bad))):
                self.shows(house, part, manner, ('always', tuple(sorted({*good, other}))), False)
            if word == 'always':
                found = closure_of(home, manner, starts)
                rest = sorted(good - found)
                for other in source.sample(rest, min(5, len(rest))):
                    greater.add(manner)
                    more = found | closure_of(home, manner, [other])
                    self.shows(house, part, manner, ('always', tuple(sorted(more))), True)
                    self.shows(house, part, manner, ('always', tuple(sorted({*found, other}))), more == {*found, other})
        self.assertEqual(greater, set(MANNERS))

    def test_wrong_in_one_thing(self):
        seen = set()
        for home, house, part, manner in cases(SMALL):
            told = sees(house, part, manner)
            if told[0] == 'always' and told[1]:
                seen.add(manner)
                for table in table_changes(told[1]):
                    self.shows(house, part, manner, ('always', table), False)
        self.assertEqual(seen, set(MANNERS))

    def test_no_other_forms(self):
        for text, manners in ((SMALL[1], MANNERS), (SMALL[0], ('each', 'lawful'))):
            home, house = Home(text), House(text)
            for manner in manners:
                part = home.parts[0]
                good, _ = greatest_table(home, 0, manner)
                forms = {repr(form) for form in all_forms(home, 0, manner)}
                rows = sorted(good)
                for row in rows[::len(rows) // 3]:
                    for other in leaf_changes(row):
                        if repr(other) not in forms:
                            rest = [told for told in rows if told != other]
                            for at in (0, len(rest)):
                                self.shows(house, part, manner, ('always', (*rest[:at], other, *rest[at:])), False)

    def test_what_may_be_known(self):
        text = 'key x 2\nkey y 2\nkey z 2\nrule x = 0 or y = 0\npart a once\n  if x = 1\n    read y'
        home, house = Home(text), House(text)
        for manner in ('one', 'each', 'forward', 'begun', 'lawful'):
            mark = {'forward': 0, 'begun': 0, 'lawful': (-1, -1, -1)}.get(manner, -1)
            table = sees(house, 'a', manner)
            for known, is_right in (
                ((1, -1, -1), True), ((0, -1, -1), True), ((-1, 0, -1), manner == 'lawful'), ((-1, -1, 1), manner == 'lawful'),
                ((1, 0, 1), manner == 'lawful'), ((1, 1, -1), False), ((1, 1, 0), False), ((2, -1, -1), False), ((-2, -1, -1), False),
            ):
                row = (((5, 0, -1),), (known,), (), mark)
                rows = closure_of(home, manner, [row]) if is_lawful(home, known) and max(known) < 2 else {row}
                self.shows(house, 'a', manner, ('always', tuple(sorted({*table[1], *rows}))), is_right)

    def test_what_ifs_of_other_parts_read_may_be_known(self):
        """Also those of parts that the work never comes to, and those behind an end."""
        text = 'key x 2\nkey y 2\nkey z 2\npart a once\n  take\npart b once\n  end\n  if y = 0\n    read z'
        home, house = Home(text), House(text)
        table = sees(house, 'a', 'one')[1]
        for known, is_right in (((-1, 1, -1), True), ((1, -1, -1), False), ((-1, -1, 1), False)):
            row = (((4, 0, -1),), (known,), (), -1)
            rows = closure_of(home, 'one', [row])
            self.shows(house, 'a', 'one', ('always', tuple(sorted({*table, *rows}))), is_right)

    def test_marks_of_lawful(self):
        text = 'key x 2\nkey y 2\nrule x = 0 or y = 0\npart a once\n  take\n  take\npart b once\n  read x'
        home, house = Home(text), House(text)
        table = sees(house, 'a', 'lawful')[1]
        self.assertEqual({row[3] for row in table}, {(-1, -1)})
        for mark, is_right in (((1, 0), True), ((0, 1), True), ((-1, 1), True), ((1, 1), False), ((2, -1), False), ((-2, -1), False)):
            rows = closure_of(home, 'lawful', [(((5, 0, -1),), ((0, 1),), (), mark)])
            self.shows(house, 'a', 'lawful', ('always', tuple(sorted({*table, *rows}))), is_right)
        for mark in ((1,), (), (1, 0, 0), [1, 0], -1, None, (True, 0), (1, False), (1, None)):
            row = (((7, 0, -1),), ((0, 1),), (), mark)
            self.shows(house, 'a', 'lawful', ('always', (*table, row)), False)

    def test_owns_and_marks_that_cannot_be(self):
        """Where nothing is read, any own and mark would be closed: so their form alone is asked."""
        text = 'key x 2\npart a once\n  take\n  take\npart b kept\n  end'
        home, house = Home(text), House(text)
        for manner in ('begun', 'each', 'forward', 'one'):
            table = sees(house, 'a', manner)[1]
            for own, mark in itertools.product((-1, -2, 0, 1), repeat=2):
                is_right = mark in {'begun': (-2, 0, 1), 'each': (-1,), 'forward': (0, 1), 'one': (-1, -2, 0, 1)}[manner]
                is_right = is_right and (own == -1 or manner == 'each')
                row = (((3, 1, own),), ((-1,), (-1,)), (0,), mark)
                rows = closure_of(home, manner, [row])
                self.shows(house, 'a', manner, ('always', tuple(sorted({*table, *rows}))), is_right)

    def test_numbers_of_openings_that_cannot_be(self):
        text = 'key x 2\npart a once\n  ask b\n  take\npart b {}\n  take\npart c kept\n  end'
        for way, numbers in (('once', (0, 1)), ('handed', (0, 1)), ('fresh', (-1,)), ('kept', (-1,))):
            home, house = Home(text.format(way)), House(text.format(way))
            table = sees(house, 'a', 'one')[1]
            for first, second in itertools.product((-1, 0, 1), repeat=2):
                kept = (0,) * len(home.kept_parts)
                rows = closure_of(home, 'one', [(((2, first, -1), (5, second, -1)), ((-1,), (-1,)), kept, -1)])
                is_right = first in (0, 1) and second in numbers
                self.shows(house, 'a', 'one', ('always', tuple(sorted({*table, *rows}))), is_right)

    def test_openings_that_cannot_be(self):
        text = 'key x 2\npart a once\n  ask b\n  loop\n    end\n  ask c\n  end\n  take\npart b handed\n  read x\npart c fresh\n  choose\n    way\n      take\n' \
            '    way\n      end'
        house = House(text)
        table = sees(house, 'a', 'one')[1]
        blank = ((-1,),)
        good = (((2, 0, -1), (9, 0, -1)), blank, (), -1)
        self.assertIn(good, table)
        for openings in (
            (), ((9, 0, -1),), ((2, 0, -1), (2, 0, -1)), ((2, 0, -1), (11, -1, -1)), ((5, 0, -1), (9, 0, -1)), ((3, 0, -1), (9, 0, -1)),
            ((2, 0, -1), (9, 0, -1), (11, -1, -1)), ((4, 0, -1),), ((6, 0, -1),), ((1, 0, -1),), ((8, 0, -1),), ((0, 0, -1),), ((-1, 0, -1),),
            ((99, 0, -1),), ((10 ** 30, 0, -1),), ((5, 0, -1), (12, -1, -1)), ((5, 0, -1), (14, -1, -1)), ((5, 0, -1), (15, -1, -1)),
            ((5, 0, -1), (11, 0, -1)), ((2, -1, -1),), ((2, 0, 0),), ((2, 1, -1),), ((2, 0),), ((2, 0, -1, -1),), [(2, 0, -1)], ((True, 0, -1),),
            ((None, 0, -1),), (('2', 0, -1),), (([2], 0, -1),),
        ):
            row = (openings, blank, (), -1)
            for rows in ((row, *table), (*table, row)):
                self.shows(house, 'a', 'one', ('always', rows), False)
        self.shows(house, 'a', 'one', ('always', tuple(sorted(table))), True)

    def test_a_place_behind_an_end(self):
        """By its form: a line of a statement is a place, though no work ever comes there."""
        text = 'key x 2\npart a once\n  take\n  end\n  take\n  take'
        house, home = House(text), Home(text)
        table = set(sees(house, 'a', 'one')[1])
        more = closure_of(home, 'one', [(((4, 0, -1),), ((-1,),), (), -1)])
        self.assertFalse(more & table)
        self.shows(house, 'a', 'one', ('always', tuple(sorted(table | more))), True)

    def test_an_end_is_no_place(self):
        text = 'key x 2\npart a once\n  take\n  end\n  take'
        house, home = House(text), Home(text)
        table = set(sees(house, 'a', 'one')[1])
        more = closure_of(home, 'one', [(((4, 0, -1),), ((-1,),), (), -1)])
        ends = {(((3, *row[0][0][1:]),), *row[1:]) for row in more}
        self.shows(house, 'a', 'one', ('always', tuple(sorted(table | more))), True)
        self.shows(house, 'a', 'one', ('always', tuple(sorted(table | more | ends))), False)

    def test_over_as_it_begins(self):
        house = House('key x 2\npart a once\n  end\n  take')
        self.shows(house, 'a', 'one', ('always', ()), True)
        self.shows(house, 'a', 'one', ('breaks', ()), False)
        more = closure_of(Home(house.text), 'one', [(((3, 0, -1),), ((-1,),), (), -1)])
        self.shows(house, 'a', 'one', ('always', tuple(sorted(more))), True)
        self.shows(house, 'a', 'one', ('always', (*sorted(more), sorted(more)[0])), False)


class RunTest(ShowsCase):
    TEXTS = (
        ('key x 2\npart a kept\n  read x\n  ask b\n  read x\npart b fresh\n  if x = 1\n    read x', 5),
        ('key x 2\nkey y 2\nrule x = 0 or y = 0\npart a fresh\n  read x\n  read y\n  read x', 4),
        ('key x 2\npart a once\n  choose\n    way\n      ask b\n    way\n      read x\n  read x\npart b handed\n  take\n  read x', 6),
    )

    def test_all_short_runs(self):
        shown = {}
        for text, many in self.TEXTS:
            home, house = Home(text), House(text)
            for part in home.parts:
                for run, jobs in all_runs(home, home.parts.index(part), many - (part == 'b')):
                    for manner in MANNERS:
                        bad = [is_broken(home, manner, job) for job in jobs]
                        wanted = bad[-1] and not any(bad[:-1])
                        shown[wanted, manner] = shown.get((wanted, manner), 0) + 1
                        self.shows(house, part, manner, ('breaks', run), wanted)
        self.assertEqual((len(shown), min(shown.values()) > 20), (10, True))

    def test_longer_runs(self):
        house = House('key x 2\npart a fresh\n  loop\n    read x')
        loop = (('step', 1), ('step', 0))
        install = ('install', (1,))
        run = (((1,),), (), (*loop, *loop, install, install, *loop))
        self.shows(house, 'a', 'one', ('breaks', run), True)
        self.shows(house, 'a', 'each', ('breaks', run), True)
        self.shows(house, 'a', 'begun', ('breaks', run), True)
        self.shows(house, 'a', 'forward', ('breaks', run), False)
        self.shows(house, 'a', 'lawful', ('breaks', run), False)
        for events in (run[2][:-1], (*run[2], ('step', 1)), (*run[2], install), (*run[2], *loop), (*run[2], ('step', 0)), ()):
            self.shows(house, 'a', 'one', ('breaks', (*run[:2], events)), False)
        other = (((1,),), (), (*loop, ('install', (0,)), *loop))
        self.shows(house, 'a', 'lawful', ('breaks', other), True)
        self.shows(house, 'a', 'lawful', ('breaks', (((0,),), *other[1:])), False)

    def test_wrong_in_one_thing(self):
        for text, _ in self.TEXTS:
            home, house = Home(text), House(text)
            for manner in MANNERS:
                told = sees(house, 'a', manner)
                if told[0] == 'breaks':
                    self.shows(house, 'a', manner, told, True)
                    for value in leaf_changes(told):
                        self.shows(house, 'a', manner, value, self.is_right(home, manner, value))

    def is_right(self, home, manner, value):
        """Whether a changed value is one that can come and breaks the manner by its last event."""
        if not isinstance(value, tuple) or len(value) != 2 or value[0] != 'breaks':
            return False
        run = value[1]
        if not isinstance(run, tuple) or len(run) != 3 or not all([isinstance(row, tuple) for row in run]):
            return False
        editions, kept, _ = run
        if not editions or not all([repr(edition) in [repr(row) for row in home.sheet.editions] for edition in editions]):
            return False
        numbers = [repr(number) for number in range(len(editions))]
        if len(kept) != len(home.kept_parts) or not all([repr(number) in numbers for number in kept]):
            return False
        if not set(range(len(editions) - 1)) <= set(kept) or 'False' in repr(run) or 'True' in repr(run):
            return False
        jobs = told_by(home, 'a', run)
        return jobs is not None and [is_broken(home, manner, job) for job in jobs] == [False] * (len(jobs) - 1) + [True]

    def test_another_word_or_kind(self):
        for home, house, part, manner in cases(SMALL):
            told = sees(house, part, manner)
            other = 'breaks' if told[0] == 'always' else 'always'
            for value in ((other, told[1]), (told[0].upper(), told[1]), list(told), told[1], told[:1], (*told, ()), (told,), told[1:]):
                self.shows(house, part, manner, value, False)
            for value in no_results(['always', 'breaks']):
                if told != ('always', ()) or value != ('always', ()):
                    self.shows(house, part, manner, value, False)


if __name__ == '__main__':
    unittest.main()
