"""shows_alike: greater tables, tables wrong in one thing, all short runs, and what is no result."""

import random
import unittest

from plain_houses import WAYS
from plain_twos import all_forms, all_runs, all_starts, closure_of, greatest_table, homes_of, is_parting, standing_of
from test_shows_sees import tiny_texts
from wrong_things import leaf_changes, no_results, table_changes

from settledreads.alike import alike, shows_alike
from settledreads.houses import House

# (text, part, ways): alike, small, all ways.
SMALL = (
    ('key x 2\npart a once\n  if x = 0\n    read x\n  take', 'a', ('handed',)),
    ('key x 2\nrule x = 1\npart a fresh\n  read x', 'a', ('once',)),
    ('key x 2\npart b handed\n  ask a\n  take\npart a handed\n  read x', 'b', ('once', 'handed')),
    ('key x 2\nrule x = 0\npart a kept\n  read x', 'a', ('fresh',)),
    ('key x 2\npart a fresh\n  take\npart b kept\n  end', 'a', ('handed', 'fresh')),
)
APART = (
    ('key x 2\npart a kept\n  read x\n  ask b\n  read x\npart b fresh\n  if x = 1\n    read x', ('kept', 'once'), 5),
    ('key x 2\nkey y 2\nrule x = 0 or y = 0\npart a fresh\n  read x\n  read y\n  read x', ('once',), 4),
    ('key x 2\npart a once\n  choose\n    way\n      ask b\n    way\n      read x\n  read x\npart b handed\n  take\n  read x', ('handed', 'kept'), 4),
)


def starts_of(homes, part):
    return {standing_of(homes, jobs) for jobs in all_starts(homes, homes[0].parts.index(part)) if jobs[0].stack}


class ShowsCase(unittest.TestCase):
    def shows(self, house, part, ways, value, wanted):
        self.assertIs(shows_alike(house, part, ways, value), wanted, (house.text, part, ways, value))


class TableTest(ShowsCase):
    def test_greatest_tables(self):
        source = random.Random(5)
        seen = {'alike': 0, 'apart': 0, 'greater': 0}
        for text in [*tiny_texts(6, 45), *[row[0] for row in SMALL]]:
            house = House(text)
            part = house.plan.parts[0]
            for ways in (house.plan.ways, tuple([source.choice(WAYS) for _ in house.plan.parts])):
                homes = homes_of(text, ways)
                if len(homes[0].names) > 1 and len(homes[0].parts) > 1:
                    continue
                good, bad = greatest_table(homes, 0)
                starts = starts_of(homes, part)
                word = 'alike' if starts <= good else 'apart'
                seen[word] += 1
                self.assertEqual(alike(house, part, ways)[0], word)
                self.shows(house, part, ways, ('alike', tuple(sorted(good))), word == 'alike')
                for other in source.sample(sorted(bad), min(8, len(bad))):
                    self.shows(house, part, ways, ('alike', tuple(sorted({*good, other}))), False)
                if word == 'alike':
                    seen['greater'] += self.check_greater(source, homes, house, ways, good, starts)
        self.assertTrue(min(seen.values()) > 10, seen)

    def check_greater(self, source, homes, house, ways, good, starts):
        """Tables that have one standing more, and all behind it, or not."""
        part = house.plan.parts[0]
        found = closure_of(homes, starts)
        self.assertEqual(alike(house, part, ways)[1], tuple(sorted(found)))
        rest = sorted(good - found)
        for other in source.sample(rest, min(4, len(rest))):
            more = found | closure_of(homes, [other])
            self.shows(house, part, ways, ('alike', tuple(sorted(more))), True)
            self.shows(house, part, ways, ('alike', tuple(sorted({*found, other}))), more == {*found, other})
        return bool(rest)

    def test_wrong_in_one_thing(self):
        for text, part, ways in SMALL:
            house = House(text)
            word, table = alike(house, part, ways)
            self.assertEqual(word, 'alike')
            for other in table_changes(table):
                self.shows(house, part, ways, ('alike', other), False)

    def test_no_other_forms(self):
        for text, part, ways in SMALL[:2]:
            house, homes = House(text), homes_of(text, ways)
            good, _ = greatest_table(homes, 0)
            forms = {repr(form) for form in all_forms(homes, 0)}
            rows = sorted(good)
            for row in rows[::max(1, len(rows) // 5)]:
                for other in leaf_changes(row):
                    if repr(other) not in forms:
                        rest = [told for told in rows if told != other]
                        for at in (0, len(rest)):
                            self.shows(house, part, ways, ('alike', (*rest[:at], other, *rest[at:])), False)

    def test_known_worths_that_leave_one(self):
        """In a greater table: x is 1 in both editions, so both give y = 0, and this is known of both then."""
        text = 'key x 2\nkey y 2\nrule x = 0 or y = 0\npart a once\n  end\n  read y\n  take'
        house, homes = House(text), homes_of(text, ('kept',))
        self.assertEqual(alike(house, 'a', ('kept',)), ('alike', ()))
        for known, is_right in ((((1, -1), (1, -1)), True), (((1, -1), (-1, -1)), False), (((-1, 1), (-1, 1)), True), (((-1, 1), (0, -1)), False)):
            row = (((5, 1, -1),), known, (0,))
            rows = closure_of(homes, [row])
            self.shows(house, 'a', ('kept',), ('alike', tuple(sorted(rows))), is_right)
        later = (((6, 1, -1),), ((1, 0), (1, 0)), (0,))
        self.assertIn(later, closure_of(homes, [(((5, 1, -1),), ((1, -1), (1, -1)), (0,))]))

    def test_numbers_that_cannot_be(self):
        text = 'key x 2\npart a once\n  ask b\npart b {}\n  take\npart c kept\n  end'
        for one, other in (('once', 'fresh'), ('handed', 'kept'), ('fresh', 'kept'), ('once', 'handed')):
            house = House(text.format(one))
            ways = ('handed', other, 'kept')
            homes = homes_of(house.text, ways)
            table = alike(house, 'a', ways)[1]
            for first in (-2, -1, 0, 1, 2):
                for second in (-1, 0, 1):
                    openings = ((2, 1, 1), (4, first, second))
                    kept = (0,) * len(homes[0].kept_parts)
                    is_right = first in ((0, 1) if one in ('once', 'handed') else (-1,)) and second in ((0, 1) if other in ('once', 'handed') else (-1,))
                    row = (openings, ((-1,), (-1,)), kept)
                    rows = closure_of(homes, [row]) if is_right else {row}
                    self.shows(house, 'a', ways, ('alike', tuple(sorted({*table, *rows}))), is_right)


class RunTest(ShowsCase):
    def test_all_short_runs(self):
        seen = {True: 0, False: 0}
        for text, ways, many in APART:
            homes, house = homes_of(text, ways), House(text)
            for part in homes[0].parts:
                for run, wanted in all_runs(homes, homes[0].parts.index(part), many - (part == 'b')):
                    seen[wanted] += 1
                    self.shows(house, part, ways, ('apart', run), wanted)
        self.assertGreater(min(seen.values()), 200)

    def test_longer_runs(self):
        house = House('key x 2\npart a fresh\n  loop\n    read x')
        loop = (('step', 1), ('step', 0))
        run = (((1,),), (), (*loop, ('install', (1,)), *loop, ('install', (0,)), ('install', (0,)), *loop))
        self.shows(house, 'a', ('once',), ('apart', run), True)
        self.shows(house, 'a', ('fresh',), ('apart', run), False)
        for events in (run[2][:-1], (*run[2], ('step', 1)), (*run[2], ('install', (1,))), (*run[2], *loop), ()):
            self.shows(house, 'a', ('once',), ('apart', (*run[:2], events)), False)

    def test_wrong_in_one_thing(self):
        for text, ways, _ in APART:
            homes, house = homes_of(text, ways), House(text)
            told = alike(house, 'a', ways)
            self.assertEqual(told[0], 'apart')
            self.shows(house, 'a', ways, told, True)
            for value in leaf_changes(told):
                self.shows(house, 'a', ways, value, self.is_right(homes, value))

    def is_right(self, homes, value):
        """Whether a changed value is a run that can come, by which both part at its last event."""
        if not isinstance(value, tuple) or len(value) != 2 or value[0] != 'apart':
            return False
        run = value[1]
        if not isinstance(run, tuple) or len(run) != 3 or not all([isinstance(row, tuple) for row in run]):
            return False
        editions, kept, _ = run
        if not editions or not all([repr(edition) in [repr(row) for row in homes[0].sheet.editions] for edition in editions]):
            return False
        if len(kept) != len(homes[0].kept_parts) or not all([repr(number) in [repr(at) for at in range(len(editions))] for number in kept]):
            return False
        if not set(range(len(editions) - 1)) <= set(kept) or 'False' in repr(run) or 'True' in repr(run):
            return False
        return is_parting(homes, 'a', run)

    def test_runs_of_parts_that_are_kept_by_one_alone(self):
        house = House('key x 2\npart a once\n  read x\npart b kept\n  end')
        run = (((0,), (1,)), (0, 0), (('step', 0),))
        self.shows(house, 'a', ('kept', 'fresh'), ('apart', run), True)
        self.shows(house, 'a', ('kept', 'kept'), ('apart', run), True)
        self.shows(house, 'a', ('kept', 'fresh'), ('apart', (run[0], (0,), run[2])), False)
        self.shows(house, 'a', ('kept', 'fresh'), ('apart', (run[0], (1, 0), run[2])), False)
        # To begin b anew does something by the house's own ways alone, and may come all the same.
        for name, is_right in (('b', True), ('a', False), ('c', False)):
            events = (('renew', name), ('step', 0))
            self.shows(house, 'a', ('kept', 'fresh'), ('apart', (*run[:2], events)), is_right)
            self.shows(house, 'a', ('kept', 'kept'), ('apart', (*run[:2], events)), is_right)

    def test_another_word_or_kind(self):
        for text, part, ways in [*SMALL, *[(row[0], 'a', row[1]) for row in APART]]:
            house = House(text)
            told = alike(house, part, ways)
            other = 'apart' if told[0] == 'alike' else 'alike'
            for value in ((other, told[1]), (told[0].upper(), told[1]), list(told), told[1], told[:1], (*told, ()), (told,), told[1:],
                          ('always', told[1]), ('breaks', told[1])):
                self.shows(house, part, ways, value, False)
            for value in no_results(['alike', 'apart']):
                self.shows(house, part, ways, value, False)


if __name__ == '__main__':
    unittest.main()
