"""Guarantees (c) to (f): plans and houses that are alike, least ways, sets and deeds, keepers beside the plain functions."""

import itertools
import random
import unittest

from plain_changes import come_of, is_mixed, random_deeds, starts_of, states_of
from plain_houses import some_texts
from plain_keepers import PlainKeeper, random_history
from plain_runs import MANNERS, Home, begun, came, events_of
from test_anew import random_keeping
from test_choosing import changed, random_offers
from test_guarantees import random_run
from test_keepers import give, state_of

from settledreads.alike import alike, shows_alike
from settledreads.anew import anew, shows_anew
from settledreads.changing import changeover, ends_well, mix
from settledreads.choosing import cheapest_ways
from settledreads.errors import BadEdition, SettledError, TooMany
from settledreads.houses import House
from settledreads.journals import read_journal
from settledreads.keepers import Keeper
from settledreads.running import kept_manners, ran
from settledreads.seeing import sees
from settledreads.stories import alike_all
from settledreads.views import View


class AlikeTest(unittest.TestCase):
    def test_where_plans_are_alike_all_houses_are(self):
        source = random.Random(181)
        told = {}
        for text in some_texts(182, 250, 5):
            house = House(text)
            ways = tuple([source.choice(['once', 'handed', way]) for way in house.plan.ways])
            by_plans = alike_all(house.plan, house.with_ways(ways).plan)[0]
            for part in house.plan.parts:
                try:
                    word, value = alike(house, part, ways)
                except TooMany:
                    continue
                told[by_plans, word] = told.get((by_plans, word), 0) + 1
                self.assertIs(shows_alike(house, part, ways, (word, value)), True)
        self.assertEqual(set(told), {('alike', 'alike'), ('apart', 'alike'), ('apart', 'apart')})
        self.assertGreater(min(told.values()), 30)

    def test_where_a_house_is_alike_no_run_reads_anything_else(self):
        """Of runs of both: those where the same parts are kept."""
        source = random.Random(183)
        asked = 0
        for text in some_texts(184, 150, 5):
            home, house = Home(text), House(text)
            ways = tuple([way if way == 'kept' else source.choice([way, 'once', 'handed', 'fresh']) for way in house.plan.ways])
            for part, name in enumerate(home.parts):
                try:
                    word = alike(house, name, ways)[0]
                except TooMany:
                    continue
                if word == 'alike' and ways != house.plan.ways:
                    for _ in range(10):
                        run = random_run(source, home, part, 12)
                        rows = [[row[:2] for row in ran(one, name, run)[0]] for one in (house, house.with_ways(ways))]
                        self.assertEqual(rows[0], rows[1], (text, name, run))
                        asked += 1
        self.assertGreater(asked, 500)


class LeastTest(unittest.TestCase):
    def test_a_choice_beside_sees(self):
        """No choice ahead keeps the manner, and none that is cheaper, in whatever sequence they are gone through."""
        source = random.Random(185)
        asked = 0
        for text in some_texts(186, 60, 4):
            house = House(text)
            offers = random_offers(source, house)
            manner = source.choice(MANNERS)
            parts = tuple(sorted(house.plan.parts))
            try:
                told = cheapest_ways(house, parts, manner, offers)
            except TooMany:
                continue
            price = told[1] if told[0] == 'choice' else 100
            if told[0] == 'choice':
                self.assertEqual([sees(changed(house, told[2]), part, manner)[0] for part in parts], ['always'] * len(parts))
            for many in range(len(offers) + 1):
                for choice in itertools.combinations(offers, many):
                    if len({offer[0] for offer in choice}) == many and sum([offer[2] for offer in choice]) < price:
                        asked += 1
                        self.assertIn('breaks', [sees(changed(house, choice), part, manner)[0] for part in parts])
        self.assertGreater(asked, 50)

    def test_a_set_beside_runs_without_installings(self):
        source = random.Random(187)
        asked = {True: 0, False: 0}
        for text in some_texts(188, 120, 7):
            home, house = Home(text), House(text)
            editions, kept = random_keeping(source, home)
            prices = tuple([source.randint(1, 9) for _ in home.kept_parts])
            name = source.choice(home.parts)
            for manner in MANNERS:
                told = anew(house, (name,), editions, kept, manner, prices)
                self.assertIs(shows_anew(house, (name,), editions, kept, manner, prices, told), True)
                self.assertEqual(told[0], sum([price for part, price in zip(home.kept_parts, prices) if home.parts[part] in told[1]]))
                for names, part, steps in told[3]:
                    asked[False] += 1
                    self.assertNotIn(manner, kept_manners(house, part, self.run_of(home, editions, kept, names, steps)))
                for _ in range(4):
                    asked[True] += 1
                    steps = self.random_steps(source, home, name, editions, kept, told[1])
                    self.assertIn(manner, kept_manners(house, name, self.run_of(home, editions, kept, told[1], steps)))
        self.assertGreater(min(asked.values()), 30)

    def kept_now(self, home, editions, kept, names):
        return tuple([len(editions) - 1 if home.parts[part] in names else number for part, number in zip(home.kept_parts, kept)])

    def run_of(self, home, editions, kept, names, steps):
        """The run of these steps, when the parts of a set were begun anew ahead: editions that none keeps are left out."""
        now = self.kept_now(home, editions, kept, names)
        held = sorted({*now, len(editions) - 1})
        return tuple([editions[number] for number in held]), tuple([held.index(number) for number in now]), tuple([('step', n) for n in steps])

    def random_steps(self, source, home, name, editions, kept, names):
        job = begun(home, home.parts.index(name), editions, self.kept_now(home, editions, kept, names))
        steps = []
        for _ in range(12):
            can = [event for event in events_of(home, job) if event[0] == 'step']
            if can:
                steps.append(source.choice(can)[1])
                job = came(home, job, ('step', steps[-1]))
        return steps

    def test_fewer_doors_and_doubled_prices(self):
        source = random.Random(189)
        dearer = 0
        for text in some_texts(190, 120, 8):
            home, house = Home(text), House(text)
            if len(home.kept_parts) > 2:
                continue
            doors = tuple(sorted(source.sample(home.parts, min(2, len(home.parts)))))
            old, new = source.choice(home.sheet.editions), source.choice(home.sheet.editions)
            prices = (tuple([source.randint(1, 4) for _ in home.kept_parts]), tuple([source.randint(1, 4) for _ in doors]), source.randint(1, 4))
            for manner in ('each', 'one'):
                price, deeds = changeover(house, doors, old, new, manner, prices)
                self.assertEqual((mix(house, doors, old, new, manner, deeds), ends_well(house, doors, old, new, deeds)), (None, True))
                double = tuple([2 * told if isinstance(told, int) else tuple([2 * one for one in told]) for told in prices])
                self.assertEqual(changeover(house, doors, old, new, manner, double), (2 * price, deeds))
                lone = changeover(house, doors[:1], old, new, manner, (prices[0], prices[1][:1], prices[2]))
                self.assertLessEqual(lone[0], price)
                dearer += lone[0] < price
                everything = sum(prices[0]) + sum(prices[1]) + prices[2]
                self.assertLessEqual(price, everything)
            # One opening reads no more than the whole work.
            self.assertLessEqual(*[changeover(house, doors, old, new, manner, prices)[0] for manner in ('each', 'one')])
        self.assertGreater(dearer, 5)

    def test_no_work_of_a_clean_row_reads_a_mix(self):
        """Works at random, amid clean rows of deeds at random."""
        source = random.Random(191)
        asked = 0
        for text in some_texts(192, 120, 7):
            home, house = Home(text), House(text)
            doors = tuple(sorted(source.sample(home.parts, source.randint(1, len(home.parts)))))
            old, new = source.choice(home.sheet.editions), source.choice(home.sheet.editions)
            deeds = random_deeds(source, home, doors, 5)
            for manner in ('each', 'one'):
                if mix(house, doors, old, new, manner, deeds) is None:
                    asked += 1
                    self.check_works(source, home, house, doors, old, new, manner, deeds)
        self.assertGreater(asked, 100)

    def check_works(self, source, home, house, doors, old, new, manner, deeds):
        for _, number, job in starts_of(home, doors, old, new, states_of(home, doors, deeds)):
            for _ in range(12):
                come = come_of(home, number, job, deeds, new)
                if come:
                    _, number, job = source.choice(come)
                self.assertIs(is_mixed(job, manner, old, new), False)


class WholeTest(unittest.TestCase):
    def test_no_edition_breaks_a_rule_and_what_is_refused_changes_nothing(self):
        source = random.Random(193)
        refused = 0
        for text in some_texts(194, 60, 6):
            home, house = Home(text), House(text)
            keeper = Keeper(house, View.whole(house.sheet, source.choice(home.sheet.editions)), manner=source.choice([None, *MANNERS]))
            for _ in range(25):
                ahead = state_of(keeper)
                try:
                    self.anything(source, home, keeper)
                except SettledError:
                    refused += 1
                    self.assertEqual(state_of(keeper), ahead)
                self.assertEqual([worths for worths in keeper.editions if worths not in home.sheet.editions], [])
                for rule in house.sheet.rules:
                    self.assertIs(rule(keeper.edition), True)
        self.assertGreater(refused, 300)

    def anything(self, source, home, keeper):
        word = source.choice(['install', 'renew', 'begin', 'step', 'manner', 'undo', 'redo'])
        if word == 'install':
            worths = tuple([source.randrange(size) for size in home.sheet.sizes])
            try:
                keeper.install(View.whole(keeper.house.sheet, worths))
            except BadEdition:
                self.assertNotIn(worths, home.sheet.editions)
                raise
        elif word == 'manner':
            keeper.manner = source.choice([None, *MANNERS])
        elif word in ('undo', 'redo'):
            getattr(keeper, word)()
        elif word == 'step':
            keeper.step(source.randrange(keeper.works + 1), source.randint(0, 2))
        else:
            getattr(keeper, word)(source.choice(home.parts))


class LiveTest(unittest.TestCase):
    def test_what_is_safe_stays_safe_whatever_comes(self):
        """And what a keeper tells of a work is told by one that read its journal."""
        source = random.Random(195)
        safe = 0
        for text in some_texts(196, 80, 5):
            home, house = Home(text), House(text)
            edition = source.choice(home.sheet.editions)
            keeper, plain = Keeper(house, View.whole(house.sheet, edition)), PlainKeeper(home, edition)
            told = set()
            for order, can in random_history(source, plain, 18):
                if not can:
                    continue
                give(keeper, order)
                for work, manner in told:
                    self.assertIn(manner, keeper.manners(work))
                if keeper.works:
                    work, manner = source.randrange(keeper.works), source.choice(MANNERS)
                    if self.word(keeper, work, manner) == 'safe':
                        told.add((work, manner))
            safe += len(told)
            self.assertEqual(state_of(read_journal(keeper.journal)), state_of(keeper))
        self.assertGreater(safe, 200)

    def word(self, keeper, work, manner):
        try:
            return keeper.risk(work, manner)[0]
        except TooMany:
            return None

    def test_a_work_of_a_part_that_always_keeps_a_manner_is_safe(self):
        source = random.Random(197)
        asked = 0
        for text in some_texts(198, 60, 4):
            home, house = Home(text), House(text)
            keeper, plain = Keeper(house, View.whole(house.sheet, home.sheet.editions[0])), PlainKeeper(home, home.sheet.editions[0])
            always = set()
            for part, manner in itertools.product(home.parts, MANNERS):
                try:
                    if sees(house, part, manner)[0] == 'always':
                        always.add((part, manner))
                except TooMany:
                    continue
            for order, can in random_history(source, plain, 12):
                if can:
                    give(keeper, order)
            begun_parts = [order[1] for order in keeper.orders if order[0] == 'begin']
            for (work, part), manner in itertools.product(enumerate(begun_parts), MANNERS):
                if (part, manner) in always:
                    asked += 1
                    self.assertEqual(keeper.risk(work, manner)[0], 'safe')
        self.assertGreater(asked, 150)


if __name__ == '__main__':
    unittest.main()
