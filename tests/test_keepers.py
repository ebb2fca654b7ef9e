"""Keepers: editions, kept parts, works by steps, manners of all works, and what is told of them."""

import random
import unittest
from unittest import mock

from plain_houses import some_texts
from plain_keepers import PlainKeeper, random_history
from plain_runs import MANNERS, Home
from samples import raises, strange_values

from settledreads import risks
from settledreads.anew import anew
from settledreads.errors import BadEdition, BadManner, BadParts, BadPrices, BadStep, Broken, Busy, NoKey, NoPart, NoWork, Over, Risky
from settledreads.errors import TooMany, Unkept
from settledreads.houses import House
from settledreads.keepers import Keeper
from settledreads.running import kept_manners, ran
from settledreads.sheets import Sheet
from settledreads.views import Draft, View

COUNTER = 'key x 2\nkey y 2\npart front once\n  read y\n  ask left\npart left kept\n  read x'
RULED = 'key x 2\nkey y 2\nrule x = 0 or y = 0\nrule x = 1 or y = 0 or y = 1\npart a fresh\n  if x = 1\n    read y\n  loop\n    read x\npart b kept\n  end\n' \
    'part c once\n  choose\n    way\n      take\n    way\n      read y\n    way\n      end'


def keeper_of(text=COUNTER, worths=None, manner=None):
    house = House(text)
    return Keeper(house, View.whole(house.sheet, worths or house.sheet.editions[0]), manner=manner)


def give(keeper, order):
    """Does an order, and returns what comes back."""
    word, *rest = order
    if word == 'install':
        return keeper.install(View.whole(keeper.house.sheet, rest[0]))
    if word == 'manner':
        keeper.manner = rest[0]
        return None
    return {'renew': keeper.renew, 'begin': keeper.begin, 'step': keeper.step}[word](*rest)


def state_of(keeper):
    """All that a keeper tells."""
    works = range(keeper.works)
    return (
        keeper.editions, keeper.kept, keeper.works, keeper.manner, keeper.orders, keeper.journal, keeper.edition.worths,
        [(keeper.places(work), keeper.reads(work), keeper.manners(work)) for work in works],
    )


class MakingTest(unittest.TestCase):
    def test_properties(self):
        house = House(COUNTER)
        edition = View.whole(house.sheet, (0, 1))
        keeper = Keeper(house, edition)
        self.assertEqual((keeper.house, keeper.edition, keeper.editions, keeper.kept, keeper.works), (house, edition, ((0, 1),), (0,), 0))
        self.assertEqual((keeper.manner, keeper.orders), (None, ()))
        self.assertEqual([keeper['x'], keeper['y'], 'x' in keeper, 'y' in keeper, 'z' in keeper], [0, 1, True, True, False])
        for value in strange_values() + ['X', 'x ', ('x',)]:
            if value != 'x':
                raises(self, NoKey, value, lambda told: keeper[told], value)
                self.assertIs(value in keeper, False)

    def test_editions_alone(self):
        house = House(RULED)
        equal = View.whole(Sheet('\n'.join(RULED.split('\n')[:4])), (1, 0))
        self.assertEqual(Keeper(house, equal).editions, ((1, 0),))
        other = View.whole(Sheet('key x 2\nkey y 2'), (0, 0))
        wrong = [View.whole(house.sheet, (1, 1)), View(house.sheet, (('x', 0),)), View(house.sheet, ()), other, Draft(equal), (0, 0)]
        for value in strange_values() + wrong:
            for manner in (None, 'one', 'all', 1):
                raises(self, BadEdition, value, Keeper, house, value, manner=manner)
        with self.assertRaises(TypeError):
            Keeper(house, equal, 'one')

    def test_manners(self):
        house = House(COUNTER)
        edition = View.whole(house.sheet, (0, 0))
        for value in strange_values() + ['One', 'present', 'none', ('one',)]:
            if value is not None:
                raises(self, BadManner, value, Keeper, house, edition, manner=value)
        for manner in (*MANNERS, None):
            self.assertEqual(Keeper(edition=edition, house=house, manner=manner).manner, manner)

    def test_it_is_not_iterated_over(self):
        with self.assertRaises(TypeError):
            list(keeper_of())


class InstallTest(unittest.TestCase):
    def test_views_and_drafts(self):
        keeper = keeper_of(RULED, (0, 0))
        sheet = keeper.house.sheet
        self.assertEqual(keeper.install(View.whole(sheet, (0, 1))), 1)
        self.assertEqual(keeper.install(value=View.whole(Sheet(sheet.text), (0, 1))), 2)
        draft = Draft(View.whole(sheet, (0, 1)))
        draft['y'] = 0
        self.assertEqual(keeper.install(draft), 3)
        draft['x'] = 1
        self.assertEqual((keeper.editions, keeper['x']), (((0, 0), (0, 1), (0, 1), (0, 0)), 0))
        self.assertEqual(keeper.edition, View.whole(sheet, (0, 0)))
        self.assertEqual(keeper.install(draft), 4)
        draft |= View.whole(sheet, (0, 1))
        self.assertEqual((keeper.editions[-1], keeper.edition.worths, keeper['x']), ((1, 0), (1, 0), 1))
        self.assertEqual([order for order in keeper.orders], [('install', worths) for worths in keeper.editions[1:]])

    def test_what_breaks_a_rule_is_refused_whole(self):
        house = House('key x 2\nkey y 2\nkey z 2\nrule z = 0\nrule x = 0 or y = 0\nrule x = 0 or y = 0 or z = 1\npart a fresh\n  end')
        keeper = Keeper(house, View.whole(house.sheet, (0, 0, 0)))
        ahead = state_of(keeper)
        draft = Draft(keeper.edition)
        draft |= View(house.sheet, (('x', 1), ('y', 1)))
        for value, number in (
            (View.whole(house.sheet, (1, 1, 0)), 1), (View.whole(house.sheet, (1, 1, 1)), 0), (View.whole(house.sheet, (0, 0, 1)), 0), (draft, 1),
            (View.whole(Sheet(house.sheet.text), (1, 1, 0)), 1),
        ):
            with self.assertRaises(BadEdition) as caught:
                keeper.install(value)
            self.assertIs(caught.exception.value, value)
            self.assertEqual((caught.exception.__cause__.__class__, caught.exception.__cause__.value), (Broken, number))
            self.assertEqual(state_of(keeper), ahead)

    def test_no_cause_for_the_others(self):
        keeper = keeper_of(RULED, (0, 0))
        other = Sheet('key x 2\nkey y 2\nrule x = 0 or y = 0')
        wrong = [View(keeper.house.sheet, (('x', 1),)), View.whole(other, (1, 1)), View.whole(other, (0, 0)), Draft(View.whole(other, (0, 0))), (0, 0), [0, 0]]
        ahead = state_of(keeper)
        for value in strange_values() + wrong:
            with self.assertRaises(BadEdition) as caught:
                keeper.install(value)
            self.assertIs(caught.exception.value, value)
            self.assertIsNone(caught.exception.__cause__)
            self.assertEqual(state_of(keeper), ahead)


class OrderTest(unittest.TestCase):
    def test_by_hand(self):
        keeper = keeper_of()
        told = [keeper.begin('front'), keeper.step(0), keeper.install(View.whole(keeper.house.sheet, (1, 1))), keeper['x'], keeper.renew('left')]
        self.assertEqual(told, [0, ('y', 0), 1, 1, None])
        self.assertEqual([keeper.step(0), keeper.step(0)], [None, ('x', 1)])
        self.assertEqual([keeper.reads(0), keeper.manners(0), keeper.places(0)], [(('y', 0, 0), ('x', 1, 1)), ('each', 'forward', 'lawful'), ()])
        self.assertEqual(keeper.orders, (
            ('begin', 'front'), ('step', 0, 0), ('install', (1, 1)), ('renew', 'left'), ('step', 0, 0), ('step', 0, 0),
        ))
        self.assertEqual([keeper.begin('left'), keeper.works, keeper.kept, keeper.places(1)], [1, 2, (1,), (6,)])

    def test_random_orders(self):
        """Beside plain works, all that is told behind each order; what is refused changes nothing."""
        source = random.Random(121)
        words = {}
        for text in some_texts(122, 120, 8):
            home, house = Home(text), House(text)
            edition = source.choice(home.sheet.editions)
            keeper, plain = Keeper(house, View.whole(house.sheet, edition)), PlainKeeper(home, edition)
            for order, can in random_history(source, plain, 30):
                words[order[0], can] = words.get((order[0], can), 0) + 1
                if can:
                    self.check(keeper, plain, order)
                else:
                    ahead = state_of(keeper)
                    kind = NoPart if home.parts.index(order[1]) not in home.kept_parts else Busy
                    raises(self, kind, order[1], keeper.renew, order[1])
                    self.assertEqual(state_of(keeper), ahead)
        self.assertEqual({word for word, can in words if can}, {'install', 'begin', 'renew', 'step'})
        self.assertGreater(words['step', True], 500)

    def check(self, keeper, plain, order):
        many = len(plain.jobs[order[1]].reads) if order[0] == 'step' else 0
        told = give(keeper, order)
        later = PlainKeeper(plain.home, plain.editions[0])
        later.go_to(plain.all_now())
        later.do(order)
        if order[0] == 'install':
            self.assertEqual(told, len(later.editions) - 1)
        elif order[0] == 'begin':
            self.assertEqual(told, len(later.jobs) - 1)
        elif order[0] == 'step':
            rows = later.reads(order[1])
            self.assertEqual(told, rows[-1][:2] if len(rows) > many else None)
        else:
            self.assertIsNone(told)
        self.assertEqual((keeper.editions, keeper.kept, keeper.works), (later.editions, tuple([at for _, at in later.kept]), len(later.jobs)))
        self.assertEqual(keeper.orders, tuple(later.orders))
        for work in range(keeper.works):
            self.assertEqual((keeper.places(work), keeper.reads(work)), (later.places(work), later.reads(work)))

    def test_whole_runs_beside_ran_and_kept_manners(self):
        """What is told of each work is what the plain functions tell of the run that it had, event by event."""
        source = random.Random(123)
        asked = 0
        for text in some_texts(124, 60, 8):
            home, house = Home(text), House(text)
            edition = source.choice(home.sheet.editions)
            keeper, plain = Keeper(house, View.whole(house.sheet, edition)), PlainKeeper(home, edition)
            runs = []
            for order, can in random_history(source, plain, 25):
                if not can:
                    continue
                if order[0] == 'begin':
                    runs.append(self.beginning(keeper, order[1]))
                give(keeper, order)
                for work, (part, editions, kept, events, numbers) in enumerate(runs):
                    if order[0] in ('install', 'renew'):
                        events.append(order)
                    if order[0] == 'install':
                        numbers.append(len(keeper.editions) - 1)
                    if order[0] == 'step' and order[1] == work:
                        events.append(('step', order[2]))
                    run = (editions, kept, tuple(events))
                    reads, places = ran(house, part, run)
                    self.assertEqual(keeper.reads(work), tuple([(key, worth, numbers[number]) for key, worth, number in reads]))
                    self.assertEqual((keeper.places(work), keeper.manners(work)), (places, kept_manners(house, part, run)))
                    asked += 1
        self.assertGreater(asked, 1500)

    def beginning(self, keeper, part):
        """(part, editions, kept, events so far, the keeper's numbers of the editions) of a run that begins now."""
        numbers = sorted({*keeper.kept, len(keeper.editions) - 1})
        editions = tuple([keeper.editions[number] for number in numbers])
        return part, editions, tuple([numbers.index(number) for number in keeper.kept]), [], numbers

    def test_renew(self):
        keeper = keeper_of()
        for value in strange_values() + ['front', 'x', 'Left', ('left',)]:
            raises(self, NoPart, value, keeper.renew, value)
        keeper.install(keeper.edition)
        work = keeper.begin('left')
        raises(self, Busy, 'left', keeper.renew, 'left')
        keeper.step(work)
        self.assertEqual(keeper.kept, (0,))
        keeper.renew('left')
        self.assertEqual(keeper.kept, (1,))
        keeper.renew(part='left')
        self.assertEqual((keeper.kept, keeper.orders[-2:]), ((1,), (('renew', 'left'),) * 2))
        work = keeper.begin('front')
        keeper.renew('left')
        keeper.step(work)
        keeper.step(work)
        raises(self, Busy, 'left', keeper.renew, 'left')

    def test_begin(self):
        keeper = keeper_of()
        for value in strange_values() + ['x', 'Front', ('front',)]:
            raises(self, NoPart, value, keeper.begin, value)
        self.assertEqual([keeper.begin('left'), keeper.begin(part='front'), keeper.works], [0, 1, 2])
        over = keeper_of('key x 2\npart a once\n  end')
        self.assertEqual([over.begin('a'), over.places(0), over.reads(0), over.manners(0)], [0, (), (), MANNERS])
        raises(self, Over, 0, over.step, 0)

    def test_step_errors_in_sequence(self):
        keeper = keeper_of(RULED)
        keeper.begin('a')
        keeper.begin('c')
        keeper.step(1, 2)
        ahead = state_of(keeper)
        for value in [told for told in strange_values() if told.__class__ is not int] + [2, -1, 10 ** 30, '0', (0,)]:
            for n in (0, 5, None):
                raises(self, NoWork, value, keeper.step, value, n)
            for call in (keeper.places, keeper.reads, keeper.manners):
                raises(self, NoWork, value, call, value)
        for n in (0, 5, None, 'x'):
            raises(self, Over, 1, keeper.step, 1, n)
        for value in [told for told in strange_values() if told != 0 or told is False] + [1, 2]:
            raises(self, BadStep, value, keeper.step, 0, value)
        self.assertEqual(state_of(keeper), ahead)
        self.assertEqual(keeper.step(n=0, work=0), ('x', 0))
        for n in (2, 3, -1, True, False):
            raises(self, BadStep, n, keeper.step, 0, n)
        self.assertEqual([keeper.step(0, 1), keeper.step(0), keeper.step(0, 0), keeper.places(0)], [None, ('x', 0), None, ()])
        work = keeper.begin('c')
        raises(self, BadStep, 3, keeper.step, work, 3)
        self.assertEqual([keeper.step(work, 1), keeper.step(work)], [None, ('y', 0)])

    def test_reads_have_the_keepers_numbers(self):
        keeper = keeper_of('key x 2\npart a fresh\n  loop\n    read x')
        keeper.install(keeper.edition)
        work = keeper.begin('a')
        for worth in (1, 0):
            keeper.step(work, 1)
            keeper.step(work)
            keeper.install(View.whole(keeper.house.sheet, (worth,)))
        self.assertEqual(keeper.reads(work), (('x', 0, 1), ('x', 1, 2)))
        self.assertEqual(keeper.manners(work), ('forward',))


class MannerTest(unittest.TestCase):
    LOOSE = 'key x 2\npart a fresh\n  read x\n  read x\npart b once\n  read x\n  read x\npart c kept\n  take\n  read x'

    def test_begin(self):
        for manner, parts in (('one', 'bc'), ('begun', 'b'), ('each', 'bc'), ('forward', 'abc'), ('lawful', 'bc')):
            keeper = keeper_of(self.LOOSE, manner=manner)
            keeper.install(keeper.edition)
            for part in 'abc':
                if part in parts:
                    keeper.begin(part)
                else:
                    ahead = state_of(keeper)
                    raises(self, Unkept, part, keeper.begin, part)
                    self.assertEqual(state_of(keeper), ahead)
            self.assertEqual(keeper.works, len(parts))
            raises(self, NoPart, 'x', keeper.begin, 'x')

    def test_begin_as_it_would_begin_now(self):
        """Where c keeps the present edition a work of it reads what was present as it began, however it goes on."""
        keeper = keeper_of(self.LOOSE, manner='begun')
        self.assertEqual(keeper.begin('c'), 0)
        keeper.install(keeper.edition)
        raises(self, Unkept, 'c', keeper.begin, 'c')

    def test_a_manner_that_is_set(self):
        keeper = keeper_of(self.LOOSE)
        for work, part in enumerate('bacab'):
            self.assertEqual(keeper.begin(part), work)
        for manner, number in (('one', 1), ('each', 1), ('lawful', 1), ('begun', 1)):
            ahead = state_of(keeper)
            raises(self, Risky, number, setattr, keeper, 'manner', manner)
            self.assertEqual(state_of(keeper), ahead)
        keeper.manner = 'forward'
        self.assertEqual(keeper.manner, 'forward')
        for work in (1, 3):
            keeper.step(work)
            raises(self, Risky, work, setattr, keeper, 'manner', 'one')
            keeper.step(work)
            if work == 1:
                raises(self, Risky, 3, setattr, keeper, 'manner', 'one')
        # A work that is over is not asked, also if it broke the manner.
        keeper.manner = 'one'
        keeper.manner = 'one'
        keeper.manner = None
        keeper.manner = None
        self.assertEqual(keeper.orders[-4:], (('manner', 'one'), ('manner', 'one'), ('manner', None), ('manner', None)))
        self.assertIsNone(keeper.manner)
        raises(self, BadManner, 'all', setattr, keeper, 'manner', 'all')
        for value in strange_values() + ['present', 'none', ('one',)]:
            if value is not None:
                raises(self, BadManner, value, setattr, keeper, 'manner', value)

    def test_works_that_broke_it(self):
        keeper = keeper_of('key x 2\npart a fresh\n  read x\n  read x\n  take')
        work = keeper.begin('a')
        keeper.step(work)
        keeper.install(View.whole(keeper.house.sheet, (1,)))
        keeper.step(work)
        raises(self, Risky, 0, setattr, keeper, 'manner', 'one')
        raises(self, Risky, 0, setattr, keeper, 'manner', 'lawful')
        keeper.manner = 'forward'
        keeper.step(work)
        keeper.manner = 'one'
        self.assertEqual(keeper.manners(work), ('forward',))

    def test_too_many(self):
        """As risk tells it, of works by their numbers."""
        keeper = keeper_of(self.LOOSE)
        for part in 'bac':
            keeper.begin(part)
        many = len(keeper.risk(0, 'one')[1])
        ahead = state_of(keeper)
        with mock.patch.object(risks, 'MOST_STANDINGS', many - 1):
            raises(self, TooMany, many - 1, setattr, keeper, 'manner', 'one')
            self.assertEqual(state_of(keeper), ahead)
        with mock.patch.object(risks, 'MOST_STANDINGS', many):
            raises(self, Risky, 1, setattr, keeper, 'manner', 'one')
        keeper = keeper_of(self.LOOSE, manner='one')
        with mock.patch.object(risks, 'MOST_STANDINGS', many - 1):
            raises(self, TooMany, many - 1, keeper.begin, 'b')
            raises(self, Unkept, 'a', keeper.begin, 'a')
        with mock.patch.object(risks, 'MOST_STANDINGS', many):
            self.assertEqual(keeper.begin('b'), 0)
        self.assertEqual(keeper.works, 1)

    def test_works_that_were_begun_keep_it_whatever_comes(self):
        source = random.Random(125)
        begun = 0
        for text in some_texts(126, 60, 6):
            home, house = Home(text), House(text)
            manner = source.choice(MANNERS)
            keeper = Keeper(house, View.whole(house.sheet, source.choice(home.sheet.editions)), manner=manner)
            for _ in range(40):
                order = self.random_order(source, home, keeper)
                try:
                    give(keeper, order)
                except (Unkept, Busy, NoPart, TooMany, Over, BadStep) as error:
                    self.assertNotEqual((order[0], error.__class__), ('install', BadEdition))
            begun += keeper.works
            for work in range(keeper.works):
                self.assertIn(manner, keeper.manners(work))
        self.assertGreater(begun, 100)

    def random_order(self, source, home, keeper):
        rows = [('install', source.choice(home.sheet.editions)), ('begin', source.choice(home.parts)), ('renew', source.choice(home.parts))]
        rows += [('step', work, source.randint(0, 2)) for work in range(keeper.works) for _ in range(2)]
        return source.choice(rows)


class AnewTest(unittest.TestCase):
    def test_beside_anew(self):
        """Of the editions that are kept and the present one, each number once."""
        source = random.Random(127)
        seen = set()
        for text in some_texts(128, 80, 8):
            home, house = Home(text), House(text)
            edition = source.choice(home.sheet.editions)
            keeper, plain = Keeper(house, View.whole(house.sheet, edition)), PlainKeeper(home, edition)
            for order, can in random_history(source, plain, 20):
                if can:
                    give(keeper, order)
            prices = tuple([source.randint(1, 9) for _ in home.kept_parts])
            parts = tuple(sorted(source.sample(home.parts, source.randint(1, len(home.parts)))))
            numbers = sorted({*keeper.kept, len(keeper.editions) - 1})
            editions = tuple([keeper.editions[number] for number in numbers])
            kept = tuple([numbers.index(number) for number in keeper.kept])
            for manner in (*MANNERS, 'present'):
                told = keeper.anew(parts, manner, prices)
                self.assertEqual(told, anew(house, parts, editions, kept, manner, prices))
                seen.add((manner, bool(told[1])))
        self.assertGreater(len(seen), 9)

    def test_an_edition_that_is_kept_by_none(self):
        keeper = keeper_of()
        sheet = keeper.house.sheet
        keeper.install(View.whole(sheet, (1, 0)))
        keeper.install(View.whole(sheet, (1, 1)))
        table = keeper.anew(('front',), 'begun', (3,))
        self.assertEqual(table[:2], (3, ('left',)))
        self.assertEqual({row[1] for row in table[2][0]}, {1})
        self.assertEqual(keeper.orders, (('install', (1, 0)), ('install', (1, 1))))

    def test_errors(self):
        keeper = keeper_of()
        for value in strange_values() + [('left', 'front'), ('x',), ['front']]:
            raises(self, BadParts, value, keeper.anew, value, 'all', ())
        for value in strange_values() + ['all', 'One']:
            raises(self, BadManner, value, keeper.anew, ('front',), value, ())
        for value in strange_values() + [(0,), (10,), (True,), (1, 1), [1]]:
            raises(self, BadPrices, value, keeper.anew, ('front',), 'present', value)
        self.assertEqual(keeper.anew(prices=(4,), manner='present', parts=('front',))[:2], (0, ()))


if __name__ == '__main__':
    unittest.main()
