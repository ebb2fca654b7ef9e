"""Readings: works by one's own statements, by the plan of a keeper's house alone."""

import random
import unittest

from plain_runs import Home
from samples import raises, strange_values
from test_keepers import COUNTER, keeper_of, state_of

from settledreads.errors import Busy, NoKey, NoPart, NothingToRedo, NothingToUndo, Over, Waits
from settledreads.plans import Plan
from settledreads.stories import reads_of
from settledreads.views import View

WAYS = ('fresh', 'once', 'handed', 'kept')
PAIR = 'key x 3\npart top {}\n  end\npart low {}\n  end\npart side once\n  end'


def installed(keeper, *worths):
    """The numbers of editions of x that are installed one by one."""
    return [keeper.install(View.whole(keeper.house.sheet, (worth,))) for worth in worths]


class ReadingTest(unittest.TestCase):
    def test_by_hand(self):
        keeper = keeper_of()
        keeper.install(View.whole(keeper.house.sheet, (1, 1)))
        keeper.renew('left')
        reading = keeper.reading('front')
        told = [reading.read('y'), 'y' in reading, 'x' in reading, reading.ask('left').read('x'), reading.close()]
        self.assertEqual(told, [1, True, False, 1, None])
        self.assertEqual([reading.part, reading.rows, 'x' in reading], ['front', (('y', 1, 1),), False])

    def test_each_way_of_a_first_part(self):
        for way, taken, wanted in (
            ('fresh', False, [0, 1, 2]), ('once', False, [0, 0, 0]), ('handed', False, [0, 0, 0]), ('kept', False, [0, 0, 0]),
            ('fresh', True, [0, 1, 2]), ('once', True, [0, 1, 1]), ('handed', True, [0, 1, 1]), ('kept', True, [0, 0, 0]),
        ):
            keeper = keeper_of(PAIR.format(way, 'fresh'), (0,))
            with keeper.reading('top') as reading:
                told = [reading.read('x')]
                installed(keeper, 1)
                if taken:
                    self.assertIsNone(reading.take())
                told.append(reading.read('x'))
                installed(keeper, 2)
                told.append(reading.read('x'))
            self.assertEqual(told, wanted, (way, taken))
            self.assertEqual(reading.rows, tuple([('x', worth, worth) for worth in wanted]))

    def test_each_way_of_a_part_that_is_asked(self):
        """The asker is of each way, and was opened ahead of the installing."""
        for asker in WAYS:
            for way in WAYS:
                keeper = keeper_of(PAIR.format(asker, way), (0,))
                reading = keeper.reading('top')
                installed(keeper, 1)
                inner = reading.ask('low')
                installed(keeper, 2)
                first = {'fresh': 2, 'once': 1, 'handed': 1 if asker == 'fresh' else 0, 'kept': 0}[way]
                self.assertEqual(inner.read('x'), first, (asker, way))
                inner.take()
                self.assertEqual(inner.read('x'), {'fresh': 2, 'once': 2, 'handed': 2, 'kept': 0}[way], (asker, way))
                inner.close()
                self.assertEqual(reading.read('x'), {'fresh': 2, 'once': 0, 'handed': 0, 'kept': 0}[asker])

    def test_kept_parts_renewed_ahead(self):
        keeper = keeper_of(PAIR.format('kept', 'kept'), (0,))
        installed(keeper, 1)
        keeper.renew('low')
        installed(keeper, 2)
        with keeper.reading('top') as reading:
            raises(self, Busy, 'top', keeper.renew, 'top')
            keeper.renew('low')
            self.assertEqual([reading.read('x'), reading.ask('low').read('x')], [0, 2])
            raises(self, Busy, 'low', keeper.renew, 'low')
        keeper.renew('top')
        keeper.renew('low')
        self.assertEqual(keeper.kept, (2, 2))

    def test_random_readings_beside_stories(self):
        """Readings with installs and renews between read what the story of the plan reads."""
        source = random.Random(141)
        for _ in range(150):
            ways = [source.choice(WAYS) for _ in range(3)]
            text = 'key x 3\n' + '\n'.join([f'part {name} {way}\n  take' for name, way in zip('abc', ways)])
            keeper = keeper_of(text, (0,))
            plan = Plan('\n'.join([f'part {name} {way} takes' for name, way in zip('abc', ways)]))
            part = source.choice('abc')
            stack, story = [keeper.reading(part)], [('begin', part)]
            rows = []
            for _ in range(source.randint(3, 14)):
                event = self.random_event(source, keeper, stack)
                if event is None:
                    continue
                if event[0] == 'read':
                    worth = stack[-1].read('x')
                    rows.append((stack[-1].part, stack[-1].rows[-1][2]))
                    self.assertEqual(worth, keeper.editions[rows[-1][1]][0])
                story.append(event)
                if event[0] == 'back' and len(stack) == 0:
                    break
            self.assertEqual(reads_of(plan, (0,) * ways.count('kept'), tuple(story)), tuple(rows), (ways, story))
            self.assertEqual(keeper.works, 0)

    def random_event(self, source, keeper, stack):
        """Does something with the reading that was opened last; the event that tells it, None if nothing came."""
        word = source.choice(['read', 'read', 'take', 'ask', 'back', 'install', 'renew'])
        if word == 'install':
            keeper.install(View.whole(keeper.house.sheet, (source.randint(0, 2),)))
            return ('install',)
        if word == 'renew':
            part = source.choice('abc')
            if part not in [name for name, way in zip(keeper.house.plan.parts, keeper.house.plan.ways) if way == 'kept']:
                return None
            if part in [reading.part for reading in stack]:
                raises(self, Busy, part, keeper.renew, part)
                return None
            keeper.renew(part)
            return ('renew', part)
        if word == 'ask':
            below = [name for name in 'abc' if name > stack[-1].part]
            if not below:
                return None
            part = source.choice(below)
            stack.append(stack[-1].ask(part))
            return ('ask', part)
        if word == 'back':
            if len(stack) == 1:
                return None
            stack.pop().close()
        if word == 'take':
            stack[-1].take()
        return (word,)

    def test_parts(self):
        keeper = keeper_of(PAIR.format('once', 'once'))
        for value in strange_values() + ['Top', 'z', ('top',)]:
            raises(self, NoPart, value, keeper.reading, value)
        with keeper.reading(part='low') as reading:
            for value in strange_values() + ['top', 'low', 'Side', ('side',)]:
                raises(self, NoPart, value, reading.ask, value)
            self.assertEqual(reading.ask(part='side').part, 'side')
        self.assertEqual(Home(keeper.house.text).parts, ['top', 'low', 'side'])

    def test_keys(self):
        keeper = keeper_of()
        with keeper.reading('front') as reading:
            for value in strange_values() + ['X', 'z', ('x',), 'front']:
                if value != 'x':
                    raises(self, NoKey, value, reading.read, value)
                self.assertIs(value in reading, False)
            self.assertEqual((reading.rows, reading.read(key='x'), 'x' in reading, 'y' in reading), ((), 0, True, False))
            self.assertEqual([reading.read('x'), reading.rows], [0, (('x', 0, 0), ('x', 0, 0))])
        self.assertEqual(('x' in reading, reading.rows, reading.part), (True, (('x', 0, 0), ('x', 0, 0)), 'front'))

    def test_no_orders_and_no_manners(self):
        keeper = keeper_of('key x 2\npart a fresh\n  read x\n  read x', manner='forward')
        ahead = state_of(keeper)
        with keeper.reading('a') as reading:
            self.assertEqual(reading.read('x'), 0)
            self.assertEqual(state_of(keeper), ahead)
            self.assertEqual([keeper.install(View.whole(keeper.house.sheet, (1,))), keeper.begin('a'), keeper.step(0)], [1, 0, ('x', 1)])
            keeper.manner = None
            self.assertEqual(reading.read('x'), 1)
        self.assertEqual(len(keeper.orders), 4)


class OpenAndOverTest(unittest.TestCase):
    def test_waits(self):
        """While one that it asked is open; ahead of NoKey and NoPart."""
        keeper = keeper_of(PAIR.format('once', 'once'))
        reading = keeper.reading('top')
        inner = reading.ask('low')
        deep = inner.ask('side')
        for waiting in (reading, inner):
            for call, value in ((waiting.read, 'x'), (waiting.read, 'z'), (waiting.ask, 'side'), (waiting.ask, 'top'), (waiting.ask, None)):
                raises(self, Waits, None, call, value)
            raises(self, Waits, None, waiting.take)
            self.assertEqual(('x' in waiting, waiting.rows), (False, ()))
        self.assertEqual(deep.read('x'), 0)
        deep.close()
        raises(self, Waits, None, reading.read, 'x')
        self.assertEqual([inner.read('x'), inner.take()], [0, None])
        inner.close()
        self.assertEqual(reading.read('x'), 0)
        again = reading.ask('low')
        raises(self, Waits, None, reading.take)
        self.assertEqual(again.read('x'), 0)

    def test_over(self):
        keeper = keeper_of(PAIR.format('once', 'once'))
        reading = keeper.reading('top')
        inner = reading.ask('low')
        deep = inner.ask('side')
        reading.close()
        for told in (reading, inner, deep):
            for call, value in ((told.read, 'x'), (told.read, 'z'), (told.read, None), (told.ask, 'side'), (told.ask, 'top'), (told.ask, 1)):
                raises(self, Over, None, call, value)
            raises(self, Over, None, told.take)
            self.assertIsNone(told.close())
            self.assertEqual(told.rows, ())
        self.assertEqual([reading.part, inner.part, deep.part], ['top', 'low', 'side'])

    def test_blocks(self):
        keeper = keeper_of(PAIR.format('once', 'kept'))
        with keeper.reading('top') as reading:
            with reading.ask('low') as inner:
                self.assertEqual(inner.read('x'), 0)
                raises(self, Waits, None, reading.read, 'x')
            raises(self, Over, None, inner.read, 'x')
            self.assertEqual(reading.read('x'), 0)
        raises(self, Over, None, reading.read, 'x')
        keeper.renew('low')

    def test_blocks_that_an_error_leaves(self):
        keeper = keeper_of(PAIR.format('once', 'once'))
        for kind in (ValueError, KeyError, ZeroDivisionError):
            error = kind('x')
            with self.assertRaises(kind) as caught:
                with keeper.reading('top') as reading:
                    with reading.ask('low') as inner:
                        raise error
            self.assertIs(caught.exception, error)
            raises(self, Over, None, reading.take)
            raises(self, Over, None, inner.take)
        with self.assertRaises(NoKey):
            with keeper.reading('top') as reading:
                reading.read('z')
        raises(self, NothingToUndo, None, keeper.undo)

    def test_busy_while_one_is_open(self):
        """Ahead of NothingToUndo and NothingToRedo; a trial that was called ahead may be entered."""
        keeper = keeper_of(PAIR.format('once', 'once'))
        trial = keeper.trial()
        reading = keeper.reading('top')
        other = keeper.reading('low')
        calls = (keeper.undo, keeper.redo, keeper.trial, keeper.copy)
        looked = []
        for closing in (None, reading):
            if closing is not None:
                closing.close()
            for call in calls:
                raises(self, Busy, None, call)
            raises(self, Busy, None, keeper.tried, looked.append)
            raises(self, Busy, None, keeper.tried, looked.append, keep=True)
        self.assertEqual(looked, [])
        with trial:
            installed(keeper, 1)
            self.assertEqual(other.read('x'), 0)
        self.assertEqual(keeper.orders, ())
        self.assertEqual(other.read('x'), 0)
        other.close()
        raises(self, NothingToUndo, None, keeper.undo)
        raises(self, NothingToRedo, None, keeper.redo)
        self.assertEqual(keeper.copy(), keeper)

    def test_one_that_was_asked_keeps_it_busy(self):
        keeper = keeper_of(PAIR.format('once', 'kept'))
        reading = keeper.reading('top')
        inner = reading.ask('low')
        raises(self, Busy, 'low', keeper.renew, 'low')
        raises(self, Busy, None, keeper.undo)
        inner.close()
        keeper.renew('low')
        raises(self, Busy, None, keeper.undo)
        reading.close()
        keeper.undo()

    def test_a_part_that_is_open_in_a_reading_that_is_over(self):
        keeper = keeper_of(PAIR.format('once', 'kept'))
        reading = keeper.reading('top')
        reading.ask('low')
        reading.close()
        self.assertIsNone(keeper.renew('low'))
        self.assertEqual(keeper_of(COUNTER).reading('left').read('x'), 0)


class TrialTest(unittest.TestCase):
    def test_opened_in_a_block_that_is_not_kept(self):
        keeper = keeper_of(PAIR.format('once', 'kept'))
        with keeper.trial():
            reading = keeper.reading('top')
            inner = reading.ask('low')
            self.assertEqual(inner.read('x'), 0)
            raises(self, Busy, None, keeper.undo)
        for told in (reading, inner):
            raises(self, Over, None, told.read, 'x')
            raises(self, Over, None, told.ask, 'side')
            raises(self, Over, None, told.take)
        self.assertEqual((inner.rows, inner.part), ((('x', 0, 0),), 'low'))
        keeper.renew('low')
        keeper.undo()

    def test_opened_in_a_block_that_is_kept(self):
        keeper = keeper_of(PAIR.format('once', 'kept'))
        with keeper.trial() as trial:
            reading = keeper.reading('top')
            installed(keeper, 1)
            trial.keep()
        self.assertEqual(reading.read('x'), 0)
        raises(self, Busy, None, keeper.undo)
        reading.close()
        keeper.undo()

    def test_kept_within_one_that_is_not(self):
        keeper = keeper_of(PAIR.format('once', 'kept'))
        with keeper.trial():
            with keeper.trial() as inner:
                reading = keeper.reading('top')
                inner.keep()
            self.assertEqual(reading.read('x'), 0)
        raises(self, Over, None, reading.read, 'x')
        with keeper.trial() as outer:
            with keeper.trial():
                lost = keeper.reading('top')
            stays = keeper.reading('low')
            outer.keep()
        raises(self, Over, None, lost.read, 'x')
        self.assertEqual(stays.read('x'), 0)

    def test_opened_behind_an_inner_block(self):
        """It is of the outer block, whether the inner one was kept or not."""
        for inner_keeps in (False, True):
            keeper = keeper_of(PAIR.format('once', 'kept'))
            with keeper.trial():
                with keeper.trial() as inner:
                    if inner_keeps:
                        inner.keep()
                reading = keeper.reading('top')
                self.assertEqual(reading.read('x'), 0)
            raises(self, Over, None, reading.read, 'x')
            keeper.reading('top').close()
            with keeper.trial():
                keeper.install(View.whole(keeper.house.sheet, keeper.editions[0]))
            self.assertEqual(keeper.orders, ())

    def test_by_tried(self):
        keeper = keeper_of(PAIR.format('once', 'kept'))
        lost = keeper.tried(lambda told: told.reading('top'))
        raises(self, Over, None, lost.take)
        stays = keeper.tried(lambda told: told.reading('top'), keep=True)
        self.assertEqual(stays.read('x'), 0)

    def test_left_by_an_error(self):
        keeper = keeper_of(PAIR.format('once', 'kept'))
        rows = []
        with self.assertRaises(ZeroDivisionError):
            with keeper.trial() as trial:
                trial.keep()
                rows.append(keeper.reading('top'))
                raise ZeroDivisionError
        raises(self, Over, None, rows[0].take)

    def test_what_was_taken_in_a_block_that_is_not_kept(self):
        """A reading that was open ahead of the block goes on by the edition that it had then."""
        keeper = keeper_of(PAIR.format('once', 'kept'), (0,))
        trial = keeper.trial()
        reading = keeper.reading('top')
        with trial:
            installed(keeper, 1)
            reading.take()
            self.assertEqual(reading.read('x'), 1)
            asked = reading.ask('side')
        self.assertEqual(keeper.editions, ((0,),))
        installed(keeper, 2)
        raises(self, Over, None, asked.read, 'x')
        self.assertEqual(reading.read('x'), 0)
        reading.take()
        self.assertEqual(reading.read('x'), 2)


if __name__ == '__main__':
    unittest.main()
