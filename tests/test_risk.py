"""risk and shows_risk of works under way, beside a plain search from where the work is."""

import itertools
import random
import unittest
from unittest import mock

from plain_houses import some_texts
from plain_keepers import PlainKeeper, breaks_at_last, plain_risk, random_history, risk_standing
from plain_runs import MANNERS, Home, events_of
from plain_tables import closure_of, greatest_table
from samples import raises, strange_values
from test_keepers import give, keeper_of
from test_shows_sees import tiny_texts
from wrong_things import leaf_changes, no_results, table_changes

from settledreads import risks
from settledreads.errors import BadManner, NoWork, TooMany
from settledreads.houses import House
from settledreads.keepers import Keeper
from settledreads.seeing import sees
from settledreads.views import View

LOOSE = 'key x 2\npart a fresh\n  read x\n  read x\npart b once\n  read x\n  read x'


def histories(source, texts, many):
    """Keepers with works under way, and plain ones alike."""
    for text in texts:
        home, house = Home(text), House(text)
        edition = source.choice(home.sheet.editions)
        keeper, plain = Keeper(house, View.whole(house.sheet, edition)), PlainKeeper(home, edition)
        for order, can in random_history(source, plain, source.randint(2, many)):
            if can:
                give(keeper, order)
        if plain.jobs:
            yield home, keeper, plain


def all_known(home):
    """The house, where worths of all keys may be known in standings."""
    home.if_keys = set(range(len(home.names)))
    return home


class RiskTest(unittest.TestCase):
    def check(self, home, keeper, plain, work, manner, most=700):
        """What risk tells is what the search tells; None if this goes on too long."""
        job = plain.job(work)
        wanted = plain_risk(home, manner, job, most)
        if wanted is None:
            return None
        told = keeper.risk(work, manner)
        rest = (home.text, keeper.orders, work, manner)
        self.assertEqual((told.__class__, len(told), told[0]), (tuple, 2, wanted[0]), rest)
        if told[0] == 'safe':
            self.assertEqual(told[1], tuple(sorted(wanted[1])), rest)
        else:
            self.assertEqual((told[1].__class__, len(told[1])), (tuple, wanted[2]), rest)
            if told[1]:
                self.assertIs(breaks_at_last(home, manner, job, told[1]), True, rest)
        self.assertIs(keeper.shows_risk(work, manner, told), True)
        return told

    def test_random_works(self):
        source = random.Random(131)
        seen = {}
        for home, keeper, plain in histories(source, some_texts(132, 150, 5), 12):
            ahead = keeper.journal
            for work in source.sample(range(keeper.works), min(2, keeper.works)):
                for manner in MANNERS:
                    told = self.check(home, keeper, plain, work, manner)
                    if told is not None:
                        key = (told[0], bool(told[1]), bool(keeper.places(work)))
                        seen[key] = seen.get(key, 0) + 1
            self.assertEqual(keeper.journal, ahead)
        self.assertEqual(set(seen), {
            ('safe', True, True), ('safe', False, False), ('risky', True, True), ('risky', False, True), ('risky', False, False),
        })
        self.assertGreater(min(seen.values()), 3)

    def test_by_hand(self):
        keeper = keeper_of(LOOSE)
        keeper.begin('a')
        keeper.begin('b')
        blank, known = (-1,), (0,)
        self.assertEqual(keeper.risk(1, 'one'), ('safe', (
            (((5, 0, -1),), (known,), (), -1), (((5, 0, -1),), (known, blank), (), -1), (((6, 0, -1),), (known,), (), 0), (((6, 0, -1),), (known, blank), (), 0),
        )))
        word, events = keeper.risk(0, 'one')
        self.assertEqual((word, len(events), [event[0] for event in events]), ('risky', 3, ['step', 'install', 'step']))
        keeper.step(0)
        self.assertEqual(len(keeper.risk(0, 'one')[1]), 2)
        word, events = keeper.risk(0, 'lawful')
        self.assertEqual((word, events), ('risky', (('install', (1,)), ('step', 0))))
        keeper.install(View.whole(keeper.house.sheet, (1,)))
        self.assertEqual(keeper.risk(0, 'one'), ('risky', (('step', 0),)))
        self.assertEqual(keeper.risk(0, 'forward')[0], 'safe')
        keeper.step(0)
        for manner in MANNERS:
            self.assertEqual(keeper.risk(0, manner), ('safe' if manner == 'forward' else 'risky', ()))

    def test_broken_already(self):
        keeper = keeper_of('key x 2\npart a fresh\n  loop\n    read x')
        keeper.begin('a')
        for worth in (1, 1):
            keeper.step(0, 1)
            keeper.step(0)
            keeper.install(View.whole(keeper.house.sheet, (worth,)))
        self.assertEqual([keeper.risk(0, manner) for manner in ('begun', 'each', 'lawful', 'one')], [('risky', ())] * 4)
        self.assertEqual(keeper.risk(0, 'forward')[0], 'safe')

    def test_held_editions_are_known_whole(self):
        """What the present one has, though the work has not read it: so one way of the if is never gone."""
        text = 'key x 2\nkey y 2\npart a once\n  take\n  if x = 1\n    ask b\n  read y\npart b fresh\n  read y\n  read y'
        house = House(text)
        for x, word in ((0, 'safe'), (1, 'risky')):
            keeper = Keeper(house, View.whole(house.sheet, (x, 1)))
            keeper.begin('a')
            keeper.step(0)
            told = keeper.risk(0, 'each')
            self.assertEqual(told[0], word)
            if word == 'safe':
                self.assertEqual({row[1][0] for row in told[1]}, {(0, 1)})
                self.assertEqual({row[1][1:] for row in told[1]}, {(), ((-1, -1),)})
        self.assertEqual(sees(house, 'a', 'each')[0], 'breaks')

    def test_what_is_installed_later_is_known_as_in_runs(self):
        """By ifs alone, but for lawful."""
        text = 'key x 2\nkey y 2\npart a fresh\n  loop\n    if x = 0\n      read y'
        keeper = keeper_of(text)
        keeper.begin('a')
        rows = {row[1] for row in keeper.risk(0, 'forward')[1]}
        self.assertEqual(rows, {((0, 0),), ((-1, -1),), ((0, -1),), ((1, -1),)})
        # All editions of this house are bound to the present one by nothing: so lawful breaks.
        self.assertEqual(keeper.risk(0, 'lawful')[0], 'risky')
        fixed = keeper_of('key x 2\nkey y 2\nrule x = 0\npart a fresh\n  loop\n    read x')
        fixed.begin('a')
        self.assertEqual({row[1] for row in fixed.risk(0, 'lawful')[1]}, {((0, 0),), ((-1, -1),), ((0, -1),)})

    def test_numbers_are_those_of_held_editions(self):
        keeper = keeper_of('key x 2\npart a once\n  read x\n  ask b\n  take\n  read x\npart b kept\n  end\n  read x')
        sheet = keeper.house.sheet
        for worth in (1, 0, 1):
            keeper.install(View.whole(sheet, (worth,)))
        keeper.begin('a')
        self.assertEqual(keeper.kept, (0,))
        self.assertEqual(keeper.risk(0, 'each')[0], 'risky')
        self.assertIn((((2, 1, -1),), ((0,), (1,)), (0,), 0), keeper.risk(0, 'forward')[1])
        self.assertNotIn((((2, 1, -1),), ((0,), (0,)), (0,), 0), keeper.risk(0, 'forward')[1])
        keeper.step(0)
        keeper.renew('b')
        keeper.install(View.whole(sheet, (0,)))
        row = (((3, 0, -1),), ((1,), (0,)), (0,), 0)
        self.assertIn(row, keeper.risk(0, 'forward')[1])
        keeper.renew('b')
        keeper.step(0)
        keeper.step(0)
        self.assertEqual([row[3] for row in keeper.risk(0, 'forward')[1]][:1], [0])
        self.assertEqual(keeper.risk(0, 'begun'), ('risky', (('step', 0),)))

    def test_other_works_and_readings_do_not_matter(self):
        """What a work may yet read hangs on its own run alone."""
        keeper = keeper_of('key x 2\npart b once\n  ask a\n  read x\npart a kept\n  read x\n  take')
        keeper.begin('b')
        told = {manner: keeper.risk(0, manner) for manner in MANNERS}
        keeper.begin('a')
        with keeper.reading('a'):
            self.assertEqual({manner: keeper.risk(0, manner) for manner in MANNERS}, told)

    def test_errors(self):
        keeper = keeper_of(LOOSE)
        keeper.begin('a')
        for value in [told for told in strange_values() if told.__class__ is not int] + [1, -1, 10 ** 30, '0']:
            for manner in ('one', 'all', None):
                raises(self, NoWork, value, keeper.risk, value, manner)
                raises(self, NoWork, value, keeper.shows_risk, value, manner, ('safe', ()))
        for value in strange_values() + ['One', 'present', 'alike', ('one',)]:
            raises(self, BadManner, value, keeper.risk, 0, value)
            raises(self, BadManner, value, keeper.shows_risk, 0, value, ('safe', ()))
        told = keeper.risk(manner='one', work=0)
        self.assertIs(keeper.shows_risk(value=told, manner='one', work=0), True)

    def test_too_many_at_any_number(self):
        source = random.Random(133)
        asked = {'safe': 0, 'risky': 0}
        for home, keeper, plain in histories(source, some_texts(134, 60, 4), 8):
            work = source.randrange(keeper.works)
            for manner in MANNERS:
                wanted = plain_risk(home, manner, plain.job(work), 500)
                if wanted is None or wanted[3] == 0:
                    continue
                asked[wanted[0]] += 1
                ahead = wanted[3]
                for most in (ahead - 1, ahead, ahead + 1):
                    with mock.patch.object(risks, 'MOST_STANDINGS', most):
                        if most < ahead:
                            raises(self, TooMany, most, keeper.risk, work, manner)
                        else:
                            self.assertEqual(keeper.risk(work, manner)[0], wanted[0])
        self.assertGreater(min(asked.values()), 20)
        self.assertEqual(risks.MOST_STANDINGS, 4000)


class ShowsTest(unittest.TestCase):
    def shows(self, keeper, work, manner, value, wanted):
        self.assertIs(keeper.shows_risk(work, manner, value), wanted, (keeper.house.text, keeper.orders, work, manner, value))

    def test_greatest_tables(self):
        """Closed tables that have the standing where the work is now; worths of any keys may be known in members."""
        source = random.Random(135)
        greater = set()
        for home, keeper, plain in histories(source, tiny_texts(136, 30) + tiny_texts(137, 30), 5):
            work = source.randrange(keeper.works)
            job = plain.job(work)
            if not job.stack or (len(home.names) > 1 and len(home.parts) > 1):
                continue
            part = home.parts.index([order[1] for order in keeper.orders if order[0] == 'begin'][work])
            for manner in source.sample(MANNERS, 2):
                if plain_risk(home, manner, job, 500) is None or keeper.risk(work, manner) == ('risky', ()):
                    continue
                self.check_greatest(source, all_known(home), keeper, work, manner, part, risk_standing(home, manner, job, len(job.editions)), greater)
        self.assertEqual(greater, set(MANNERS))

    def check_greatest(self, source, home, keeper, work, manner, part, now, greater):
        good, bad = greatest_table(home, part, manner)
        word = 'safe' if now in good else 'risky'
        self.assertEqual(keeper.risk(work, manner)[0], word)
        self.shows(keeper, work, manner, ('safe', tuple(sorted(good))), word == 'safe')
        for other in source.sample(sorted(bad), min(4, len(bad))):
            self.shows(keeper, work, manner, ('safe', tuple(sorted({*good, other}))), False)
        if word == 'safe':
            found = closure_of(home, manner, [now])
            self.shows(keeper, work, manner, ('safe', tuple(sorted(found - {now}))), False)
            rest = sorted(good - found)
            for other in source.sample(rest, min(4, len(rest))):
                greater.add(manner)
                more = found | closure_of(home, manner, [other])
                self.shows(keeper, work, manner, ('safe', tuple(sorted(more))), True)
                self.shows(keeper, work, manner, ('safe', tuple(sorted({*found, other}))), more == {*found, other})

    def test_tables_wrong_in_one_thing(self):
        keeper = keeper_of('key x 2\nkey y 2\npart a once\n  read x\n  ask b\npart b kept\n  if x = 1\n    take')
        keeper.begin('a')
        keeper.step(0)
        keeper.begin('b')
        for work, manner in itertools.product((0, 1), MANNERS):
            told = keeper.risk(work, manner)
            if told[0] == 'safe':
                for table in table_changes(told[1]):
                    self.shows(keeper, work, manner, ('safe', table), False)

    def test_the_standing_where_it_is_now(self):
        """A closed table that has not this one, though another work's, is none of this work."""
        keeper = keeper_of('key x 2\npart a once\n  take\n  take\n  read x')
        keeper.begin('a')
        keeper.begin('a')
        keeper.step(0)
        table, later = keeper.risk(1, 'one')[1], keeper.risk(0, 'one')[1]
        self.assertLess(set(later), set(table))
        self.shows(keeper, 0, 'one', ('safe', table), True)
        self.shows(keeper, 1, 'one', ('safe', later), False)
        # The table of works whose editions are not known has another standing at this place.
        self.shows(keeper, 0, 'one', ('safe', sees(keeper.house, 'a', 'one')[1]), False)
        both = tuple(sorted({*sees(keeper.house, 'a', 'one')[1], *table}))
        self.shows(keeper, 1, 'one', ('safe', both), True)

    def test_events_of_short_rows(self):
        seen = {True: 0, False: 0}
        text = 'key x 2\npart a fresh\n  choose\n    way\n      read x\n    way\n      ask b\n  read x\npart b kept\n  read x'
        home = Home(text)
        for orders in ((('begin', 'a'),), (('begin', 'a'), ('step', 0, 0), ('step', 0, 0)), (('install', (1,)), ('begin', 'a'), ('step', 0, 1)), (('begin', 'b'),)):
            keeper, plain = keeper_of(text), PlainKeeper(home, (0,))
            for order in orders:
                give(keeper, order)
                plain.do(order)
            job = plain.job(0)
            events = [('install', (0,)), ('install', (1,)), ('renew', 'b'), ('renew', 'a'), ('step', 0), ('step', 1)]
            for many in range(5):
                for row in itertools.product(events, repeat=many):
                    for manner in MANNERS:
                        wanted = breaks_at_last(home, manner, job, row)
                        seen[wanted] += 1
                        self.shows(keeper, 0, manner, ('risky', row), wanted)
        self.assertGreater(seen[True], 50)

    def test_events_wrong_in_one_thing(self):
        keeper, plain = keeper_of(LOOSE), PlainKeeper(Home(LOOSE), (0,))
        for order in (('begin', 'a'), ('step', 0, 0)):
            give(keeper, order)
            plain.do(order)
        for value in (keeper.risk(0, 'one'), ('risky', (('install', (0,)), ('install', (1,)), ('step', 0)))):
            self.shows(keeper, 0, 'one', value, True)
            for other in leaf_changes(value):
                is_right = isinstance(other, tuple) and len(other) == 2 and other[0] == 'risky' and isinstance(other[1], tuple)
                is_right = is_right and 'True' not in repr(other) and 'False' not in repr(other)
                is_right = is_right and all([event in [*events_of(plain.home, plain.job(0)), ('step', 0)] for event in other[1]])
                self.shows(keeper, 0, 'one', other, is_right and breaks_at_last(plain.home, 'one', plain.job(0), other[1]))

    def test_a_work_that_is_over_or_broken(self):
        """What risk tells alone."""
        keeper = keeper_of(LOOSE)
        for part in ('a', 'b', 'a'):
            keeper.begin(part)
        for work in (0, 1, 2):
            keeper.step(work)
        keeper.install(View.whole(keeper.house.sheet, (1,)))
        for work in (0, 1):
            keeper.step(work)
        table = keeper.risk(2, 'forward')[1]
        for work, manner in itertools.product((0, 1), MANNERS):
            told = keeper.risk(work, manner)
            self.assertIn(told, [('safe', ()), ('risky', ())])
            for value in [('safe', ()), ('risky', ()), ('safe', table), ('risky', (('step', 0),)), *no_results(['safe', 'risky']), *leaf_changes(told)]:
                self.shows(keeper, work, manner, value, value == told and value.__class__ is tuple)
        for value in (('safe', ()), ('risky', ())):
            self.shows(keeper, 2, 'one', value, False)
            self.shows(keeper, 2, 'forward', value, False)
        # Broken, and not over yet.
        keeper = keeper_of('key x 2\npart a fresh\n  read x\n  read x\n  take\n  read x')
        keeper.begin('a')
        keeper.step(0)
        keeper.install(View.whole(keeper.house.sheet, (1,)))
        keeper.step(0)
        for value in (('safe', ()), ('risky', (('step', 0), ('step', 0))), ('risky', (('step', 0),))):
            self.shows(keeper, 0, 'one', value, False)
        self.shows(keeper, 0, 'one', ('risky', ()), True)

    def test_another_word_or_kind(self):
        keeper = keeper_of(LOOSE)
        keeper.begin('a')
        keeper.begin('b')
        for work, manner in itertools.product((0, 1), MANNERS):
            told = keeper.risk(work, manner)
            other = {'safe': 'risky', 'risky': 'safe'}[told[0]]
            for value in ((other, told[1]), (told[0].upper(), told[1]), list(told), told[1], told[:1], (*told, ()), (told,), ('always', told[1]), ('breaks', told[1]),
                          *no_results(['safe', 'risky', 'always', 'breaks'])):
                self.shows(keeper, work, manner, value, False)


if __name__ == '__main__':
    unittest.main()
