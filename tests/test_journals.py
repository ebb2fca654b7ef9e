"""Journals of keepers: what is written, what is read back, wrong lines, and journals that were torn."""

import random
import unittest

from plain_houses import first_wrong, random_parts, sizes_of, some_texts
from plain_keepers import PlainKeeper, random_history
from plain_runs import MANNERS, Home
from samples import no_strings, raises
from test_keepers import COUNTER, give, keeper_of, state_of
from test_trials import ORDERS

from settledreads.errors import BadEdition, BadStep, BadText, Broken, Busy, NoPart, NothingToRedo, NoWork, Over, Risky, SettledError, Unkept
from settledreads.houses import House
from settledreads.journals import read_journal, recover
from settledreads.keepers import Keeper
from settledreads.views import View

JOURNAL = '''edition 0 0
manner none
house
  key x 2
  key y 2
  part front once
    read y
    ask left
  part left kept
    read x
orders
  begin front
  step 0 0
  install 1 1
  renew left
  manner forward
  step 0 0
  step 0 0'''
LINES = JOURNAL.split('\n')
RULED = 'edition 0 0\nmanner one\nhouse\n  key x 2\n  key y 2\n  rule x = 0 or y = 0\n  part a once\n    read x\norders'


def with_line(number, line, lines=None):
    """The journal with another line in one place."""
    rows = list(LINES if lines is None else lines)
    rows[number] = line
    return '\n'.join(rows)


class WriteTest(unittest.TestCase):
    def test_each_order(self):
        keeper = keeper_of()
        for at, order in enumerate(ORDERS):
            self.assertEqual(keeper.journal, '\n'.join(LINES[:11 + at]))
            give(keeper, order)
        self.assertEqual(keeper.journal, JOURNAL)
        keeper.undo()
        self.assertEqual(keeper.journal, '\n'.join(LINES[:-1]))
        give(keeper, ('manner', None))
        self.assertEqual(keeper.journal.split('\n')[-1], '  manner none')

    def test_first_lines(self):
        keeper = keeper_of('key x 2\npart a once\n  read x', (1,), 'lawful')
        self.assertEqual(keeper.journal, 'edition 1\nmanner lawful\nhouse\n  key x 2\n  part a once\n    read x\norders')
        keeper.manner = None
        keeper.install(View.whole(keeper.house.sheet, (0,)))
        self.assertEqual(keeper.journal.split('\n')[0:2] + keeper.journal.split('\n')[-2:], ['edition 1', 'manner lawful', '  manner none', '  install 0'])
        for manner in MANNERS:
            self.assertEqual(keeper_of(manner=manner).journal.split('\n')[1], f'manner {manner}')

    def test_trials_leave_nothing(self):
        keeper = keeper_of()
        with keeper.trial():
            give(keeper, ('begin', 'front'))
            self.assertEqual(keeper.journal.split('\n')[-1], '  begin front')
        self.assertEqual(keeper.journal, '\n'.join(LINES[:11]))


class ReadTest(unittest.TestCase):
    def test_an_equal_keeper(self):
        keeper = read_journal(JOURNAL)
        told = keeper_of()
        for order in ORDERS:
            give(told, order)
        self.assertEqual((keeper, state_of(keeper)), (told, state_of(told)))
        raises(self, NothingToRedo, None, keeper.redo)
        keeper.undo()
        self.assertEqual(keeper.orders, ORDERS[:-1])
        told = keeper.copy()
        again = read_journal(text=keeper.journal)
        self.assertEqual(again, told)
        raises(self, NothingToRedo, None, again.redo)

    def test_random_keepers(self):
        source = random.Random(161)
        for text in some_texts(162, 80, 9):
            home, house = Home(text), House(text)
            edition = source.choice(home.sheet.editions)
            keeper, plain = Keeper(house, View.whole(house.sheet, edition)), PlainKeeper(home, edition)
            for order, can in random_history(source, plain, source.randint(0, 15)):
                if can:
                    give(keeper, order)
            told = read_journal(keeper.journal)
            self.assertEqual((told, state_of(told)), (keeper, state_of(keeper)))
            self.assertEqual(recover(keeper.journal), (keeper, 0))

    def test_with_manners(self):
        for manner in (*MANNERS, 'none'):
            keeper = read_journal(with_line(1, f'manner {manner}', LINES[:11]))
            self.assertEqual(keeper.manner, None if manner == 'none' else manner)
            keeper = read_journal('\n'.join([*LINES[:11], f'  manner {manner}']))
            self.assertEqual(keeper.orders, (('manner', None if manner == 'none' else manner),))


class BadTextTest(unittest.TestCase):
    def wrong(self, number, text):
        raises(self, BadText, number, read_journal, text)

    def test_no_strings(self):
        for value in no_strings():
            raises(self, BadText, -1, read_journal, value)
            raises(self, BadText, -1, recover, value)

    def test_wrong_lines_of_each_place(self):
        rows = {
            0: ['', 'edition', 'edition ', 'edition  0', 'edition 0 0 ', ' edition 0 0', 'Edition 0 0', 'edition 00 0', 'edition 0 x', 'edition -1 0', 'edition 0\t0',
                'edition 1234567890 0', 'manner none', '  edition 0 0'],
            1: ['', 'manner', 'manner ', 'manner None', 'manner present', 'manner all', 'manner one one', 'manner  one', ' manner one', 'manner 1', 'house', 'Manner one'],
            2: ['', 'house ', ' house', 'House', 'house x', '  house', 'orders', '  key x 2'],
            10: ['', 'orders ', 'Orders', ' orders', 'order', 'orders x', 'begin front', 'house'],
        }
        for number, lines in rows.items():
            for line in lines:
                self.wrong(number, with_line(number, line))
                self.wrong(number, with_line(number, line, with_line(12, 'x').split('\n')))
        orders = [
            '', '  ', 'begin front', ' begin front', '   begin front', '    begin front', '  begin', '  begin ', '  begin Front', '  begin front ', '  begin  front',
            '  begin front left', '  begin abcdefghi', '  begin 1', '  renew', '  renew left left', '  renew Left', '  renew 0', '  install', '  install 0', '  install 0 0 0',
            '  install 0 2', '  install 2 0', '  install 0 00', '  install 0 x', '  install 0 -1', '  install 0 1234567890', '  install  0 0', '  step', '  step 0',
            '  step 0 0 0', '  step 00 0', '  step 0 x', '  step x 0', '  step -1 0', '  step 1234567890 0', '  step 0 0 ', '  manner', '  manner all', '  manner present',
            '  manner one one', '  manner None', '  undo', '  redo', '  orders', 'orders', '  Begin front', '  begin\tfront', '  get x', '  begin front\t', '  foo one', '  one none', 'xxbegin front', ' xbegin front', '\t\tbegin front',
        ]
        for at in (11, 12, 17):
            for line in orders:
                self.wrong(at, with_line(at, line))
                self.wrong(at, with_line(at, line) + '\n  begin nopart\nx')
        for line in orders:
            self.wrong(18, JOURNAL + '\n' + line)

    def test_missing_lines(self):
        for many in range(1, 11):
            # Where the house ends behind the ask nothing is missing in it but the part that is asked.
            self.wrong(7 if many == 8 else many, '\n'.join(LINES[:many]))
        self.wrong(0, '')
        self.assertEqual(read_journal('\n'.join(LINES[:11])).orders, ())
        self.wrong(11, '\n'.join(LINES[:11]) + '\n')
        self.wrong(18, JOURNAL + '\n')

    def test_lines_of_the_house(self):
        """As House takes them, two blanks deeper; what it lacks at its end is missing in the line behind it."""
        for at, line in ((3, '  key x 4'), (3, '  Key x 2'), (3, '  part a once'), (4, '  key x 2'), (5, '  part front never'), (6, '    read z'), (6, '      read y'),
                         (7, '    ask Left'), (8, '  part front kept'), (9, '    read z'), (4, '  rule x = 2'), (4, '  '), (3, '   key x 2')):
            self.wrong(at, with_line(at, line))
            self.wrong(at, '\n'.join(with_line(at, line).split('\n')[:at + 1]))
        # A line that stands less deep ends the house.
        for at, line in ((3, 'key x 2'), (3, ' key x 2'), (4, ''), (4, 'orders'), (6, 'read y'), (6, ' read y'), (9, 'orders')):
            self.wrong(at, with_line(at, line))
        self.wrong(6, '\n'.join([*LINES[:6], 'orders']))
        self.wrong(9, '\n'.join([*LINES[:9], *LINES[10:]]))
        self.wrong(3, '\n'.join([*LINES[:3], *LINES[10:]]))

    def test_an_ask_of_a_part_that_does_not_stand_below(self):
        """Its line is told whatever stands behind the house's lines, but not ahead of what is wrong, or missing, in them."""
        for behind in (LINES[8:], LINES[10:], ['orders'], ['x'], [], ['orders', '  x'], ['']):
            rows = [row if row != '  part left kept' else '  part lost kept' for row in [*LINES[:8], *behind]]
            self.wrong(7, '\n'.join(rows))
        self.wrong(9, with_line(9, '    read z', with_line(8, '  part lost kept').split('\n')))
        self.wrong(9, '\n'.join(with_line(8, '  part lost kept').split('\n')[:9]))
        self.wrong(1, with_line(7, '    ask front', with_line(1, 'manner all').split('\n')))

    def test_random_houses(self):
        """The number of the line in the journal is three more than that in the house's text."""
        source = random.Random(163)
        seen = set()
        for _ in range(400):
            sheet = source.choice(['key x 2', 'key x 2\nkey y 2'])
            lines = random_parts(source, sizes_of(sheet), source.randint(1, 3), 5)
            if source.random() < 0.8:
                at = source.randrange(len(lines))
                source.choice([lambda: lines.pop(at), lambda: lines.insert(at, source.choice(lines)), lambda: lines.__setitem__(at, '  ' + lines[at])])()
            wanted = first_wrong(sheet, lines)
            text = '\n'.join([*sheet.split('\n'), *lines])
            journal = '\n'.join(['edition ' + ' '.join('0' * len(sheet.split('\n'))), 'manner none', 'house', *['  ' + line for line in text.split('\n')], 'orders'])
            seen.add(wanted is None)
            if wanted is None:
                self.assertEqual(read_journal(journal).house.text, text)
            else:
                self.wrong(wanted + 3, journal)
                self.wrong(wanted + 3, journal[:-len('\norders')])
        self.assertEqual(seen, {True, False})

    def test_first_worths_that_are_no_edition(self):
        """Only if all lines are right otherwise."""
        for line in ('edition 0', 'edition 0 0 0', 'edition 0 2', 'edition 2 0', 'edition 999999999 0'):
            self.wrong(0, with_line(0, line))
            self.wrong(0, with_line(0, line, LINES[:11]))
            for at, other in ((1, 'manner all'), (3, '  key x 4'), (11, '  begin'), (17, '  step 0'), (13, '  install 0 2')):
                self.wrong(at, with_line(at, other, with_line(0, line).split('\n')))
            self.wrong(18, with_line(0, line) + '\n')
            self.wrong(10, '\n'.join(with_line(0, line).split('\n')[:10]))
            # What an order would raise that is refused comes behind.
            self.wrong(0, with_line(11, '  begin nopart', with_line(0, line).split('\n')))
        self.wrong(0, RULED.replace('edition 0 0', 'edition 1 1'))
        self.assertEqual(read_journal(RULED).editions, ((0, 0),))


class RefusedTest(unittest.TestCase):
    def refused(self, kind, value, *orders):
        raises(self, kind, value, read_journal, '\n'.join([*LINES[:11], *['  ' + order for order in orders]]))

    def test_what_the_first_refused_order_raises(self):
        self.refused(NoPart, 'nopart', 'begin nopart', 'begin other')
        self.refused(NoPart, 'front', 'begin front', 'renew front')
        self.refused(Busy, 'left', 'begin left', 'renew left')
        self.refused(NoWork, 0, 'step 0 0')
        self.refused(NoWork, 123456789, 'begin left', 'step 123456789 0')
        self.refused(Over, 0, 'begin left', 'step 0 0', 'step 0 0')
        self.refused(BadStep, 1, 'begin left', 'step 0 1')
        self.refused(Unkept, 'front', 'manner one', 'begin front')
        self.refused(Risky, 0, 'begin front', 'manner one', 'begin nopart')
        with self.assertRaises(BadEdition) as caught:
            read_journal(RULED + '\n  install 1 1')
        self.assertEqual((caught.exception.value.worths, caught.exception.__cause__.__class__, caught.exception.__cause__.value), ((1, 1), Broken, 0))

    def test_wrong_lines_are_told_ahead_of_refused_orders(self):
        raises(self, BadText, 12, read_journal, '\n'.join([*LINES[:11], '  begin nopart', '  begin']))
        raises(self, BadText, 13, read_journal, '\n'.join([*LINES[:11], '  step 0 0', '  begin front', '']))


class RecoverTest(unittest.TestCase):
    def by_trying(self, text):
        """(keeper, lost) by trying all beginnings of whole lines; None if there is none."""
        lines = text.split('\n')
        for many in range(len(lines), 0, -1):
            beginning = '\n'.join(lines[:many])
            try:
                keeper = read_journal(beginning)
            except SettledError:
                continue
            return keeper, len('\n'.join(lines[many:]))
        return None

    def check(self, text):
        wanted = self.by_trying(text)
        if wanted is None:
            raises(self, BadText, 0, recover, text)
            return None
        told = recover(text)
        self.assertEqual((told.__class__, len(told), told[0].__class__), (tuple, 2, Keeper))
        self.assertEqual((told, state_of(told[0])), (wanted, state_of(wanted[0])), text)
        raises(self, NothingToRedo, None, told[0].redo)
        return told[1]

    def test_torn_at_each_place(self):
        """All that can be read where less than the orders' line is whole is nothing."""
        for journal in (JOURNAL, RULED + '\n  install 0 1\n  begin a\n  install 1 0', self.long_journal()):
            head = journal.index('\norders') + len('\norders')
            for many in range(len(journal) + 1):
                lost = self.check(journal[:many])
                self.assertEqual(lost is None, many < head, journal[:many])
                if lost is not None:
                    self.assertLess(lost, 18)

    def long_journal(self):
        keeper = keeper_of('key x 2\npart a fresh\n  choose\n    way\n      take\n    way\n      loop\n        take\npart ab kept\n  read x', (0,))
        for _ in range(12):
            keeper.begin('ab')
        for order in (('install', (1,)), ('step', 11, 0), ('step', 1, 0), ('begin', 'a'), ('step', 12, 1), ('step', 12, 1)):
            give(keeper, order)
        return keeper.journal

    def test_lost_characters(self):
        for tail, lost in (('', 0), ('\n', 0), ('\n\n', 1), ('\n  ', 2), ('\n  begin', 7), ('\n  begin\n', 8), ('\n  begin nopart\n  begin front', 28), ('\nx', 1)):
            self.assertEqual(self.check(JOURNAL + tail), lost, tail)
        self.assertEqual(self.check('\n'.join(LINES[:11]) + '\n  begi'), 6)
        self.assertEqual(self.check('\n'.join(LINES[:11]) + '\n  renew front\n  begin front'), 27)
        self.assertEqual(recover(text=JOURNAL)[1], 0)

    def test_a_number_that_is_torn(self):
        """step 11 0 is no order where it is torn to step 1, and one where it is torn behind a blank and a lesser number."""
        journal = self.long_journal()
        at = journal.index('  step 12 1')
        self.assertEqual(recover(journal[:at + len('  step 1')])[1], len('  step 1'))
        keeper, lost = recover(with_line(13, '  install 1 0'))
        self.assertEqual((lost, keeper.editions[-1]), (0, (1, 0)))

    def test_refused_orders_and_wrong_lines(self):
        for at in range(11, 18):
            for line in ('  begin nopart', '  step 0 9', '  step 9 0', '  begin', '', 'orders', '  renew front'):
                told = recover(with_line(at, line))
                self.assertEqual(len(told[0].orders), at - 11)
                self.assertEqual(told[1], len('\n'.join([line, *LINES[at + 1:]])))
                self.check(with_line(at, line))

    def test_nothing_to_recover(self):
        for at in (0, 1, 2, 3, 6, 9, 10):
            raises(self, BadText, 0, recover, with_line(at, 'x'))
        for text in ('', '\n', 'x', 'edition 0 0', with_line(0, 'edition 0'), RULED.replace('edition 0 0', 'edition 1 1'), with_line(7, '    ask front')):
            raises(self, BadText, 0, recover, text)


if __name__ == '__main__':
    unittest.main()
