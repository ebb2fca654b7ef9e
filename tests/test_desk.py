"""A desk: each line of the table and its answer, lines that are none, and what is refused."""

import itertools
import random
import unittest

from plain_runs import MANNERS
from samples import no_strings, raises, strange_values
from test_journals import JOURNAL, LINES
from test_keepers import state_of
from test_trials import everything

from settledreads.anew import anew
from settledreads.desk import Desk
from settledreads.errors import BadEdition, BadLine, BadManner, BadPairs, BadParts, BadStep, BadText, Broken, Busy, NoKey, NoPart, NothingToRedo
from settledreads.errors import NothingToUndo, NoWork, Over, Risky, SettledError, Unkept
from settledreads.journals import read_journal
from settledreads.keepers import Keeper
from settledreads.seeing import sees

START = '\n'.join(LINES[:11])
RULED = 'edition 0 0\nmanner none\nhouse\n  key x 2\n  key y 2\n  rule x = 0 or y = 0\n  part a fresh\n    choose\n      way\n        read x\n      way\n' \
    '        take\n    read y\n  part b kept\n    read x\n  part c kept\n    end\norders'
LONE = 'edition 0\nmanner none\nhouse\n  key x 2\n  part a once\n    read x\norders'
WORDS = ('install', 'begin', 'renew', 'manner', 'undo', 'redo', 'step', 'get', 'kept', 'places', 'reads', 'manners', 'risk', 'sees', 'anew')


class DeskTest(unittest.TestCase):
    def says(self, desk, *rows):
        for line, answer in rows:
            told = desk.say(line)
            self.assertEqual((told.__class__, told), (str, answer), line)

    def test_a_keeper_by_its_journal(self):
        desk = Desk(JOURNAL)
        self.assertIsInstance(desk.keeper, Keeper)
        self.assertEqual((desk.keeper, desk.keeper.journal), (read_journal(JOURNAL), JOURNAL))
        self.assertIs(desk.keeper, desk.keeper)
        self.assertEqual(Desk(text=START).keeper.works, 0)
        for value in no_strings():
            raises(self, BadText, -1, Desk, value)
        raises(self, BadText, 1, Desk, START.replace('none', 'all'))
        raises(self, BadText, 0, Desk, START.replace('0 0', '0 2', 1))
        raises(self, NoPart, 'z', Desk, START + '\n  begin z')

    def test_by_hand(self):
        desk = Desk(START)
        self.says(desk, ('begin front', '0'), ('places 0', '3'), ('reads 0', '-'), ('step 0', 'y = 0'), ('install 1 1', '1'), ('get x', '1'), ('kept', 'left 0'))
        self.says(desk, ('renew left', 'ok'), ('kept', 'left 1'), ('step 0 0', 'ok'), ('places 0', '4 6'), ('step 0', 'x = 1'), ('places 0', '-'))
        self.says(desk, ('reads 0', 'y = 0 of 0; x = 1 of 1'), ('manners 0', 'each forward lawful'), ('undo', 'ok'), ('reads 0', 'y = 0 of 0'), ('redo', 'ok'))
        self.says(desk, ('reads 0', 'y = 0 of 0; x = 1 of 1'), ('manner lawful', 'ok'), ('manner none', 'ok'), ('begin left', '1'), ('get y', '1'))
        self.assertEqual(desk.keeper.orders, (
            ('begin', 'front'), ('step', 0, 0), ('install', (1, 1)), ('renew', 'left'), ('step', 0, 0), ('step', 0, 0), ('manner', 'lawful'), ('manner', None),
            ('begin', 'left'),
        ))
        self.assertEqual(Desk(desk.keeper.journal).keeper, desk.keeper)

    def test_none_of_each(self):
        desk = Desk(LONE)
        self.says(desk, ('kept', '-'), ('begin a', '0'), ('reads 0', '-'), ('step 0', 'x = 0'), ('places 0', '-'), ('manners 0', ' '.join(MANNERS)))
        self.says(desk, ('anew present a', '-'), ('risk 0 one', 'safe 0'))
        desk = Desk(LONE.replace('once\n    read x', 'fresh\n    read x\n    read x\n    read x'))
        self.says(desk, ('begin a', '0'), ('install 1', '1'), ('step 0', 'x = 1'), ('install 0', '2'), ('step 0', 'x = 0'), ('manners 0', 'forward'))
        self.says(desk, ('risk 0 one', 'risky 0'), ('step 0', 'x = 0'), ('risk 0 one', 'risky 0'), ('risk 0 forward', 'safe 0'))

    def test_a_work_that_keeps_no_manner(self):
        desk = Desk('edition 0\nmanner none\nhouse\n  key x 2\n  part a fresh\n    read x\n    read x\n    ask b\n  part b kept\n    read x\norders')
        self.says(desk, ('begin a', '0'), ('step 0', 'x = 0'), ('install 1', '1'), ('step 0', 'x = 1'), ('manners 0', 'forward'), ('step 0', 'ok'))
        self.says(desk, ('step 0', 'x = 0'), ('manners 0', '-'), ('reads 0', 'x = 0 of 0; x = 1 of 1; x = 0 of 0'))

    def test_choices_and_several(self):
        desk = Desk(RULED)
        self.says(desk, ('begin a', '0'), ('step 0 1', 'ok'), ('step 0', 'ok'), ('step 0', 'y = 0'), ('kept', 'b 0; c 0'), ('begin a', '1'), ('step 1', 'ok'))
        self.says(desk, ('step 1 0', 'x = 0'), ('install 0 1', '1'), ('renew c', 'ok'), ('kept', 'b 0; c 1'), ('step 1', 'y = 1'), ('reads 1', 'x = 0 of 0; y = 1 of 1'))

    def test_risk_sees_and_anew(self):
        for text in (START, RULED, LONE):
            desk = Desk(text)
            desk.say('begin ' + desk.keeper.house.plan.parts[0])
            desk.say('install ' + ' '.join('0' * len(desk.keeper.house.sheet.names)))
            for manner in MANNERS:
                word, told = desk.keeper.risk(0, manner)
                self.says(desk, (f'risk 0 {manner}', f'{word} {len(told)}'))
                for part in desk.keeper.house.plan.parts:
                    word, told = sees(desk.keeper.house, part, manner)
                    self.says(desk, (f'sees {part} {manner}', f'{word} {len(told if word == "always" else told[2])}'))
            for manner, parts in itertools.product((*MANNERS, 'present'), (sorted(desk.keeper.house.plan.parts), sorted(desk.keeper.house.plan.parts)[:1])):
                told = desk.keeper.anew(tuple(parts), manner, (1,) * len(desk.keeper.kept))[1]
                self.says(desk, (f'anew {manner} {" ".join(parts)}', ' '.join(told) or '-'))
        desk = Desk(START)
        self.says(desk, ('install 1 1', '1'), ('anew present front', 'left'), ('anew lawful front left', '-'), ('sees front one', 'breaks 3'), ('sees left one', 'always 2'))
        two = Desk('edition 0\nmanner none\nhouse\n  key x 2\n  part top once\n    ask m\n    ask b\n  part m kept\n    read x\n  part b kept\n    read x\norders')
        self.says(two, ('install 1', '1'), ('anew present top', 'b m'), ('anew one top', '-'), ('anew begun b m', 'b m'))
        told = anew(two.keeper.house, ('top',), ((0,), (1,)), (0, 0), 'present', (1, 1))
        self.assertEqual(told[1], ('b', 'm'))


class BadLineTest(unittest.TestCase):
    def test_what_is_no_line(self):
        lines = ['', ' ', 'x', 'Install 0 0', 'say', 'edition 0 0', 'house', 'orders', 'begin front\n', '\nbegin front', 'begin front\nkept', 'undo\n', ' undo', 'undo ']
        lines += ['install', 'install ', 'install x', 'install 0 x', 'install 00 0', 'install 0  0', 'install 0 0 ', ' install 0 0', 'install -1 0', 'install 0 1234567890']
        lines += ['install 0\t0', 'install 0,0', 'install (0, 0)', 'install 0 +1', 'install 0 01', 'begin', 'begin ', 'begin Front', 'begin front left', 'begin  front']
        lines += ['begin 0', 'begin abcdefghi', 'renew', 'renew left left', 'renew Left', 'renew 0', 'manner', 'manner One', 'manner 1', 'manner one one', 'manner  one']
        lines += ['undo 1', 'undo undo', 'redo 1', 'redo x', 'kept left', 'kept 0', 'step', 'step ', 'step x', 'step 0 x', 'step 0 0 0', 'step 00', 'step 0 00', 'step -1']
        lines += ['step 0 -1', 'step 1234567890', 'step 0 1234567890', 'step  0', 'get', 'get X', 'get x y', 'get 0', 'get abcdefghi', 'places', 'places x', 'places 0 0']
        lines += ['places 00', 'places 1234567890', 'reads', 'reads x', 'reads 0 0', 'reads 00', 'manners', 'manners one', 'manners 0 0', 'manners 01', 'risk', 'risk 0']
        lines += ['risk one', 'risk 0 one one', 'risk one 0', 'risk 00 one', 'risk 0 One', 'risk 0 1', 'risk 1234567890 one', 'sees', 'sees front', 'sees front one one']
        lines += ['sees 0 one', 'sees front 1', 'sees front One', 'sees  one', 'anew', 'anew one', 'anew one 1', 'anew 1 front', 'anew one front ', 'anew one  front']
        lines += ['anew One front', 'anew one front Left', 'anew one abcdefghi', 'get  x', 'places  0', 'KEPT', 'trial', 'copy', 'tried', 'journal', 'close front', 'wait']
        desk = Desk(JOURNAL)
        ahead = everything(desk.keeper)
        for value in strange_values() + lines:
            raises(self, BadLine, value, desk.say, value)
            self.assertEqual(state_of(desk.keeper), ahead[0])
        self.assertEqual(everything(desk.keeper), ahead)
        for word in WORDS:
            for value in no_strings():
                row = (word, value)
                raises(self, BadLine, row, desk.say, row)

    def test_words_that_are_left_out_put_in_or_exchanged(self):
        """All lines of few words: told as the table says, or none."""
        source = random.Random(171)
        words = [*WORDS, 'front', 'left', 'x', 'y', 'one', 'none', 'present', '0', '1', '00', '', 'X']
        known = 0
        for _ in range(6000):
            row = [source.choice(WORDS), *[source.choice(words) for _ in range(source.choice([0, 1, 1, 2, 2, 3]))]]
            line = ' '.join(row)
            desk = Desk(START + '\n  begin left')
            ahead = state_of(desk.keeper)
            try:
                desk.say(line)
            except BadLine as error:
                self.assertEqual((error.value, self.is_line(row)), (line, False))
            except (SettledError, NoKey):
                known += 1
                self.assertIs(self.is_line(row), True, line)
                self.assertEqual(state_of(desk.keeper), ahead)
            else:
                known += 1
                self.assertIs(self.is_line(row), True, line)
        self.assertGreater(known, 800)

    def is_line(self, row):
        forms = {
            'install': 'w+', 'begin': 'n', 'renew': 'n', 'manner': 'n', 'undo': '', 'redo': '', 'step': 'w?', 'get': 'n', 'kept': '', 'places': 'w', 'reads': 'w',
            'manners': 'w', 'risk': 'wn', 'sees': 'nn', 'anew': 'n+',
        }
        kinds = ''.join(['w' if word in ('0', '1') else 'n' if word.isalpha() and word.islower() else '?' for word in row[1:]])
        form = forms[row[0]]
        if form == 'w+':
            return len(kinds) > 0 and set(kinds) == {'w'}
        if form == 'n+':
            return len(kinds) > 1 and set(kinds) == {'n'}
        return kinds in (('w', 'ww') if form == 'w?' else (form,))

    def test_argument_by_name(self):
        self.assertEqual(Desk(START).say(line='kept'), 'left 0')


class ErrorTest(unittest.TestCase):
    def refused(self, desk, kind, value, line):
        ahead = everything(desk.keeper)
        raises(self, kind, value, desk.say, line)
        self.assertEqual(everything(desk.keeper), ahead)

    def test_as_the_keeper_and_the_functions(self):
        desk = Desk(START)
        for kind, value, line in (
            (NoPart, 'z', 'begin z'), (NoPart, 'front', 'renew front'), (NoPart, 'z', 'renew z'), (BadManner, 'all', 'manner all'), (BadManner, 'present', 'manner present'),
            (NothingToUndo, None, 'undo'), (NothingToRedo, None, 'redo'), (NoWork, 0, 'step 0'), (NoWork, 0, 'step 0 5'), (NoWork, 999999999, 'places 999999999'),
            (NoWork, 0, 'reads 0'), (NoWork, 0, 'manners 0'), (NoWork, 0, 'risk 0 all'), (NoKey, 'z', 'get z'), (NoPart, 'z', 'sees z all'), (BadManner, 'all', 'sees left all'),
            (BadManner, 'none', 'sees left none'), (BadManner, 'present', 'sees left present'), (BadManner, 'all', 'anew all front'), (BadParts, ('z',), 'anew all z'),
            (BadParts, ('left', 'front'), 'anew one left front'), (BadParts, ('left', 'left'), 'anew one left left'), (BadParts, ('front', 'z'), 'anew one front z'),
        ):
            with self.assertRaises((SettledError, NoKey)) as caught:
                desk.say(line)
            self.assertEqual((caught.exception.__class__, caught.exception.value), (kind, value), line)
        desk.say('begin front')
        self.refused(desk, BadManner, 'all', 'risk 0 all')
        self.refused(desk, BadManner, 'none', 'risk 0 none')
        self.refused(desk, BadStep, 1, 'step 0 1')
        self.refused(desk, Risky, 0, 'manner one')
        desk.say('begin left')
        self.refused(desk, Busy, 'left', 'renew left')
        desk.say('step 1')
        self.refused(desk, Over, 1, 'step 1 7')
        desk.say('undo')
        self.refused(desk, NoWork, 2, 'reads 2')

    def test_unkept(self):
        desk = Desk(START.replace('none', 'one'))
        self.refused(desk, Unkept, 'front', 'begin front')
        self.assertEqual(desk.say('begin left'), '0')

    def test_install(self):
        desk = Desk(RULED)
        for line, worths in (('install 0', (0,)), ('install 0 0 0', (0, 0, 0)), ('install 0 2', (0, 2)), ('install 999999999 0', (999999999, 0))):
            with self.assertRaises(BadPairs) as caught:
                desk.say(line)
            self.assertEqual(caught.exception.value, worths)
        with self.assertRaises(BadEdition) as caught:
            desk.say('install 1 1')
        self.assertEqual((caught.exception.value.worths, caught.exception.__cause__.__class__, caught.exception.__cause__.value), ((1, 1), Broken, 0))
        self.assertEqual(desk.keeper.orders, ())

    def test_while_a_reading_is_open(self):
        desk = Desk(START)
        desk.say('begin left')
        with desk.keeper.reading('front') as reading:
            for line in ('undo', 'redo'):
                raises(self, Busy, None, desk.say, line)
            reading.ask('left')
            self.assertEqual(desk.say('step 0'), 'x = 0')
            raises(self, Busy, 'left', desk.say, 'renew left')
        self.assertEqual([desk.say('undo'), desk.say('redo'), desk.say('renew left')], ['ok'] * 3)


if __name__ == '__main__':
    unittest.main()
