"""undo, redo, orders; trials and tried; copies and equality of keepers."""

import random
import unittest

from plain_houses import some_texts
from plain_keepers import PlainKeeper, random_order
from plain_runs import Home
from samples import raises, strange_values
from test_keepers import COUNTER, give, keeper_of, state_of

from settledreads.errors import BadEdition, NothingToRedo, NothingToUndo
from settledreads.houses import House
from settledreads.keepers import Keeper
from settledreads.sheets import Sheet
from settledreads.views import View

ORDERS = (('begin', 'front'), ('step', 0, 0), ('install', (1, 1)), ('renew', 'left'), ('manner', 'forward'), ('step', 0, 0), ('step', 0, 0))


def everything(keeper):
    """All that a keeper tells, also of what can be undone and redone, as it is in copies."""
    rows = [state_of(keeper)]
    for call in ('undo', 'redo'):
        told = keeper.copy()
        while True:
            try:
                getattr(told, call)()
            except (NothingToUndo, NothingToRedo):
                break
            rows.append(state_of(told))
    return rows


class UndoTest(unittest.TestCase):
    def test_each_order(self):
        keeper = keeper_of()
        states = [state_of(keeper)]
        for order in ORDERS:
            give(keeper, order)
            states.append(state_of(keeper))
        self.assertEqual(keeper.orders, ORDERS)
        for state in states[-2::-1]:
            self.assertIsNone(keeper.undo())
            self.assertEqual(state_of(keeper), state)
        raises(self, NothingToUndo, None, keeper.undo)
        for state in states[1:]:
            self.assertIsNone(keeper.redo())
            self.assertEqual(state_of(keeper), state)
        raises(self, NothingToRedo, None, keeper.redo)
        self.assertEqual(state_of(keeper), states[-1])

    def test_another_order_ends_what_can_be_redone(self):
        keeper = keeper_of()
        for order in ORDERS[:3]:
            give(keeper, order)
        keeper.undo()
        raises(self, BadEdition, 1, keeper.install, 1)
        keeper.redo()
        keeper.undo()
        keeper.undo()
        give(keeper, ('begin', 'left'))
        raises(self, NothingToRedo, None, keeper.redo)
        self.assertEqual(keeper.orders, (('begin', 'front'), ('begin', 'left')))

    def test_random_orders(self):
        source = random.Random(151)
        for text in some_texts(152, 60, 7):
            home, house = Home(text), House(text)
            edition = source.choice(home.sheet.editions)
            keeper, plain = Keeper(house, View.whole(house.sheet, edition)), PlainKeeper(home, edition)
            for _ in range(30):
                word = source.choice(['order', 'order', 'order', 'undo', 'redo'])
                if word == 'order':
                    order = random_order(source, plain)
                    if plain.can(order):
                        give(keeper, order)
                        plain.do(order)
                elif not (plain.ahead if word == 'undo' else plain.taken_back):
                    raises(self, NothingToUndo if word == 'undo' else NothingToRedo, None, getattr(keeper, word))
                else:
                    getattr(keeper, word)()
                    getattr(plain, word)()
                self.assertEqual((keeper.orders, keeper.editions, keeper.kept), (
                    tuple(plain.orders), plain.editions, tuple([at for _, at in plain.kept]),
                ))
                self.assertEqual([keeper.reads(work) for work in range(keeper.works)], [plain.reads(work) for work in range(len(plain.jobs))])
                self.assertEqual([keeper.places(work) for work in range(keeper.works)], [plain.places(work) for work in range(len(plain.jobs))])


class TrialTest(unittest.TestCase):
    def keeper(self):
        """A keeper with orders that can be undone, and some that can be redone."""
        keeper = keeper_of()
        for order in ORDERS:
            give(keeper, order)
        keeper.undo()
        keeper.undo()
        return keeper

    def test_not_kept(self):
        keeper = self.keeper()
        ahead = everything(keeper)
        with keeper.trial() as trial:
            give(keeper, ('install', (0, 1)))
            give(keeper, ('begin', 'left'))
            self.assertEqual((keeper['x'], keeper.works), (0, 2))
        self.assertEqual(everything(keeper), ahead)
        self.assertIsNone(trial.keep())
        self.assertEqual(everything(keeper), ahead)

    def test_kept(self):
        keeper = self.keeper()
        with keeper.trial() as trial:
            give(keeper, ('install', (0, 1)))
            self.assertIsNone(trial.keep())
            give(keeper, ('install', (1, 0)))
        self.assertEqual(keeper.orders, (*ORDERS[:5], ('install', (0, 1)), ('install', (1, 0))))
        raises(self, NothingToRedo, None, keeper.redo)
        keeper.undo()
        self.assertEqual(keeper['x'], 0)

    def test_undo_of_what_was_done_ahead(self):
        for keep in (False, True):
            keeper = self.keeper()
            ahead = everything(keeper)
            with keeper.trial() as trial:
                for _ in range(4):
                    keeper.undo()
                self.assertEqual(keeper.orders, ORDERS[:1])
                give(keeper, ('begin', 'left'))
                if keep:
                    trial.keep()
            if keep:
                self.assertEqual(keeper.orders, (ORDERS[0], ('begin', 'left')))
                raises(self, NothingToRedo, None, keeper.redo)
            else:
                self.assertEqual(everything(keeper), ahead)

    def test_undo_and_redo_alone(self):
        keeper = self.keeper()
        ahead = everything(keeper)
        with keeper.trial():
            keeper.undo()
            keeper.undo()
        self.assertEqual(everything(keeper), ahead)
        with keeper.trial():
            keeper.redo()
            keeper.redo()
        self.assertEqual(everything(keeper), ahead)
        with keeper.trial() as trial:
            keeper.redo()
            trial.keep()
        self.assertEqual(keeper.orders, ORDERS[:6])
        keeper.redo()
        self.assertEqual(keeper.orders, ORDERS)

    def test_left_by_an_error(self):
        """It goes on, and nothing stays, though keep was called."""
        for kind in (ValueError, KeyError, BadEdition):
            keeper = self.keeper()
            ahead = everything(keeper)
            error = kind('x')
            with self.assertRaises(kind) as caught:
                with keeper.trial() as trial:
                    trial.keep()
                    give(keeper, ('install', (0, 1)))
                    raise error
            self.assertIs(caught.exception, error)
            self.assertEqual(everything(keeper), ahead)

    def test_within_one_another(self):
        for outer_keeps in (False, True):
            for inner_keeps in (False, True):
                keeper = self.keeper()
                ahead = everything(keeper)
                with keeper.trial() as outer:
                    give(keeper, ('install', (0, 1)))
                    if outer_keeps:
                        outer.keep()
                    with keeper.trial() as inner:
                        give(keeper, ('begin', 'left'))
                        if inner_keeps:
                            inner.keep()
                    self.assertEqual(keeper.works, 2 if inner_keeps else 1)
                    give(keeper, ('install', (1, 0)))
                rest = [('install', (0, 1)), ('begin', 'left'), ('install', (1, 0))]
                if outer_keeps:
                    self.assertEqual(keeper.orders, (*ORDERS[:5], rest[0], *rest[1:1 + inner_keeps], rest[2]))
                else:
                    self.assertEqual(everything(keeper), ahead)

    def test_an_error_that_leaves_the_inner_one_alone(self):
        keeper = self.keeper()
        with keeper.trial() as outer:
            give(keeper, ('install', (0, 1)))
            outer.keep()
            with self.assertRaises(ValueError):
                with keeper.trial() as inner:
                    inner.keep()
                    give(keeper, ('begin', 'left'))
                    raise ValueError('x')
        self.assertEqual(keeper.orders, (*ORDERS[:5], ('install', (0, 1))))

    def test_kept_from_within_the_inner_one(self):
        """The block of the trial that is told to keep is kept, and none else."""
        keeper = self.keeper()
        with keeper.trial() as outer:
            give(keeper, ('install', (0, 1)))
            with keeper.trial():
                give(keeper, ('begin', 'left'))
                outer.keep()
            self.assertEqual(keeper.works, 1)
        self.assertEqual(keeper.orders, (*ORDERS[:5], ('install', (0, 1))))

    def test_keep_called_outside_of_the_inner_block(self):
        keeper = self.keeper()
        ahead = everything(keeper)
        with keeper.trial():
            inner = keeper.trial()
            inner.keep()
            with inner:
                give(keeper, ('install', (0, 1)))
            self.assertEqual(everything(keeper), ahead)
            inner.keep()
            give(keeper, ('begin', 'left'))
        self.assertEqual(everything(keeper), ahead)

    def test_keep_called_twice(self):
        keeper = self.keeper()
        with keeper.trial() as trial:
            trial.keep()
            give(keeper, ('install', (0, 1)))
            trial.keep()
        self.assertEqual(keeper.orders, (*ORDERS[:5], ('install', (0, 1))))

    def test_one_trial_twice(self):
        """keep counts for the block in which it was called."""
        keeper = self.keeper()
        trial = keeper.trial()
        trial.keep()
        with trial:
            give(keeper, ('install', (0, 1)))
        self.assertEqual(keeper.orders, ORDERS[:5])
        with trial as told:
            give(keeper, ('install', (0, 1)))
            told.keep()
        self.assertEqual(len(keeper.orders), 6)
        with trial:
            give(keeper, ('install', (0, 1)))
        self.assertEqual(len(keeper.orders), 6)
        with trial:
            with trial as told:
                give(keeper, ('begin', 'left'))
                told.keep()
            self.assertEqual(len(keeper.orders), 7)
        self.assertEqual(len(keeper.orders), 6)

    def test_manners_and_works(self):
        keeper = self.keeper()
        ahead = everything(keeper)
        with keeper.trial():
            keeper.manner = 'each'
            keeper.step(0)
            keeper.step(0)
            self.assertEqual((keeper.manner, keeper.places(0)), ('each', ()))
        self.assertEqual(everything(keeper), ahead)

    def test_tried(self):
        keeper = self.keeper()
        ahead = everything(keeper)
        marks = []

        def look(told):
            marks.append(told)
            told.install(View.whole(told.house.sheet, (0, 1)))
            return told['x'], told['y'], told.orders

        wanted = (0, 1, (*ORDERS[:5], ('install', (0, 1))))
        for value in [None, False, 0, 1, 'True', (True,), [], 2, keeper]:
            self.assertEqual(keeper.tried(look, keep=value), wanted)
            self.assertEqual(everything(keeper), ahead)
        self.assertEqual(keeper.tried(look), wanted)
        self.assertEqual(everything(keeper), ahead)
        self.assertEqual(keeper.tried(keep=True, look=look), wanted)
        self.assertEqual(keeper.orders, wanted[2])
        self.assertTrue(all([mark is keeper for mark in marks]))
        with self.assertRaises(TypeError):
            keeper.tried(look, True)

    def test_tried_with_an_error(self):
        keeper = self.keeper()
        ahead = everything(keeper)

        def look(told):
            told.undo()
            raise ZeroDivisionError('x')

        for keep in (True, False):
            with self.assertRaises(ZeroDivisionError):
                keeper.tried(look, keep=keep)
            self.assertEqual(everything(keeper), ahead)

    def test_tried_within_tried(self):
        keeper = self.keeper()

        def outer(told):
            told.install(View.whole(told.house.sheet, (0, 1)))
            return told.tried(lambda one: one.begin('left'), keep=True), told.tried(lambda one: one.begin('left'))

        self.assertEqual(keeper.tried(outer, keep=True), (1, 2))
        self.assertEqual(keeper.orders, (*ORDERS[:5], ('install', (0, 1)), ('begin', 'left')))
        self.assertEqual(keeper.tried(outer), (2, 3))
        self.assertEqual(len(keeper.orders), 7)


class CopyTest(unittest.TestCase):
    def test_alike_in_all(self):
        keeper = keeper_of(manner='forward')
        for order in ORDERS:
            give(keeper, order)
        keeper.undo()
        other = keeper.copy()
        self.assertEqual(everything(other), everything(keeper))
        self.assertEqual(other, keeper)
        self.assertIsNot(other, keeper)

    def test_independent(self):
        keeper = keeper_of()
        for order in ORDERS:
            give(keeper, order)
        keeper.undo()
        ahead = everything(keeper)
        other = keeper.copy()
        other.redo()
        give(other, ('install', (0, 1)))
        self.assertEqual(everything(keeper), ahead)
        mine = everything(other)
        keeper.undo()
        give(keeper, ('begin', 'left'))
        self.assertEqual(everything(other), mine)
        with keeper.trial():
            told = keeper.copy()
            give(told, ('begin', 'left'))
            give(keeper, ('begin', 'front'))
        self.assertEqual(told.orders[-1], ('begin', 'left'))
        self.assertEqual(told.works, 3)
        reading = keeper.reading('front')
        told.undo()
        told.reading('left').close()
        reading.close()

    def test_equality(self):
        """Houses, first editions, first manners and orders."""
        keeper = keeper_of()
        self.assertTrue(keeper == keeper_of() and not keeper != keeper_of())
        sheet = Sheet('key x 2\nkey y 2')
        self.assertEqual(Keeper(House(COUNTER), View.whole(sheet, (0, 0))), keeper)
        for other in (keeper_of(worths=(0, 1)), keeper_of(manner='one'), keeper_of(COUNTER.replace('once', 'handed')), keeper_of(COUNTER + '\n  take')):
            self.assertFalse(keeper == other or other == keeper)
            self.assertTrue(keeper != other)
        for value in strange_values() + [keeper.house, keeper.journal, keeper.orders, keeper.edition]:
            self.assertFalse(keeper == value or value == keeper)
        other = keeper_of()
        for one in (keeper, other):
            give(one, ('begin', 'front'))
            self.assertEqual(keeper == other, one is other)
        # What was taken back does not count, nor what can be redone; the first manner does, also if it is the one now.
        give(keeper, ('step', 0, 0))
        keeper.undo()
        self.assertEqual(keeper, other)
        manner, late = keeper_of(manner='one'), keeper_of()
        late.manner = 'one'
        self.assertNotEqual(manner, late)
        one, two = keeper_of(), keeper_of()
        for order in (('install', (1, 1)), ('begin', 'left')):
            give(one, order)
        for order in (('begin', 'left'), ('install', (1, 1))):
            give(two, order)
        self.assertNotEqual(one, two)


if __name__ == '__main__':
    unittest.main()
