"""sees, beside a plain search over runs with whole editions."""

import unittest
from unittest import mock

from plain_houses import some_texts
from plain_runs import MANNERS, Home, all_starts, is_broken, plain_search, standing_of, told_by
from plain_tables import closure_of, counted
from samples import raises, strange_values

from settledreads import seeing
from settledreads.errors import BadManner, NoPart, TooMany
from settledreads.houses import House
from settledreads.running import kept_manners, ran
from settledreads.seeing import sees, shows_sees

DESK = '''key x 2
key y 2
rule x = 0 or y = 0
part shop kept
  if x = 1
    ask till
  else
    take
  read y
part till handed
  read y
  loop
    read x'''

# Houses with nearly 4000 standings: (word, how many come by fewer events than a shortest run has, part, manner, text).
NEAR = (
    ('breaks', 4000, 'part', 'lawful', (
        'key x 3\npart part once\n  ask if\n  ask if\npart if kept\n  loop\n    read x\n    if x = 0\n      take\n'
        '    read x\npart a kept\n  read x\n  choose\n    way\n      read x\n      read x\n      read x\n    way\n'
        '      take\npart read kept\n  end\n  read x'
    )),
    ('breaks', 4008, 'read', 'lawful', (
        'key x 3\npart read handed\n  ask part\n  ask part\npart way kept\n  choose\n    way\n      ask a\n'
        '    way\n      end\n    way\n      read x\npart a kept\n  ask part\n  ask part\npart part kept\n  loop\n'
        '    read x\n    read x\n    read x'
    )),
    ('always', 3998, 'way', 'each', (
        'key x 2\npart way handed\n  take\n  ask part\n  read x\n  take\npart part kept\n  if x = 1\n    read x\n'
        '    ask z\n    ask read\npart z kept\n  take\npart read kept\n  if x = 1\n    read x\n    take\n  read x'
    )),
    ('always', 4002, 'end', 'each', (
        'key x 3\npart end kept\n  ask b\n  take\n  read x\n  read x\npart abcdefgh kept\n  take\npart b kept\n'
        '  if x = 2\n    ask z\n    read x\n  else\n    read x\npart z kept\n  read x\n  take'
    )),
    ('always', 4010, 'b', 'forward', (
        'key x 3\npart b once\n  ask abcdefgh\n  end\n  read x\npart read kept\n  read x\npart abcdefgh kept\n'
        '  ask end\n  ask end\n  end\n  read x\npart end kept\n  read x\n  if x = 2\n    read x'
    )),
)


class SeesTest(unittest.TestCase):
    def check(self, text, part, manner, most=1500):
        """What sees tells is what the search tells; None if this goes on too long."""
        home, house = Home(text), House(text)
        wanted = plain_search(home, home.parts.index(part), manner, most)
        if wanted is None:
            return None
        told = sees(house, part, manner)
        self.assertEqual((told.__class__, len(told), told[0]), (tuple, 2, wanted[0]), (text, part, manner))
        if told[0] == 'always':
            self.assertEqual(told[1], tuple(sorted(wanted[1])), (text, part, manner))
        else:
            self.check_run(home, house, part, manner, told[1], wanted[2])
        self.assertIs(shows_sees(house, part, manner, told), True)
        return told

    def check_run(self, home, house, part, manner, run, many):
        self.assertEqual([value.__class__ for value in (run, *run)], [tuple] * 4)
        editions, kept, events = run
        self.assertEqual(len(events), many, (home.text, part, manner))
        self.assertEqual(events[-1][0], 'step')
        self.assertGreater(len(ran(house, part, run)[0]), len(ran(house, part, (editions, kept, events[:-1]))[0]))
        self.assertNotIn(manner, kept_manners(house, part, run))
        self.assertIn(manner, kept_manners(house, part, (editions, kept, events[:-1])))
        jobs = told_by(home, part, run)
        self.assertEqual([is_broken(home, manner, job) for job in jobs], [False] * many + [True])

    def test_random_houses(self):
        words = {}
        for text in some_texts(21, 45, 4) + some_texts(22, 25, 7):
            for part in Home(text).parts:
                for manner in MANNERS:
                    told = self.check(text, part, manner)
                    if told is not None:
                        words.setdefault((told[0], manner), []).append(len(told[1]))
        self.assertEqual(set(words), {(word, manner) for word in ('always', 'breaks') for manner in MANNERS})
        self.assertGreater(sum([len(row) for row in words.values()]), 300)

    def test_by_hand(self):
        for manner in MANNERS:
            for part in ('shop', 'till'):
                self.assertIsNotNone(self.check(DESK, part, manner, 20000))

    def test_several_installs_with_unlike_worths(self):
        text = 'key x 2\npart a once\n  if x = 1\n    ask b\npart b once\n  if x = 0\n    ask c\npart c once\n  if x = 1\n    ask d\n' \
            'part d fresh\n  read x\n  read x'
        word, run = self.check(text, 'a', 'each', 20000)
        self.assertEqual((word, len(run[2]), run[0]), ('breaks', 11, ((1,),)))
        self.assertEqual([event[1] for event in run[2] if event[0] == 'install'][:2], [(0,), (1,)])

    def test_small_tables(self):
        house = House('key x 2\nkey y 2\npart a once\n  if x = 1\n    read y')
        first, second = (3, 0, -1), (4, 0, -1)
        none, told = (-1, -1), (1, -1)
        self.assertEqual(sees(house, 'a', 'each'), ('always', (
            ((first,), (none,), (), -1), ((first,), (none, none), (), -1),
            (((4, 0, 0),), (told,), (), -1), (((4, 0, 0),), (told, none), (), -1),
        )))
        self.assertEqual(sees(house, 'a', 'lawful'), ('always', (
            ((first,), (none,), (), none), ((first,), (none, none), (), none),
            ((second,), (told,), (), told), ((second,), (told, none), (), told),
        )))
        self.assertEqual(sees(house, 'a', 'one')[1][2:], (((second,), (told,), (), 0), ((second,), (told, none), (), 0)))
        self.assertEqual(sees(house, 'a', 'begun')[1][3], ((second,), (told, none), (), 0))
        self.assertEqual(sees(house, 'a', 'forward')[1][2], ((second,), (told,), (), 0))

    def test_reads_are_not_known_but_for_lawful(self):
        house = House('key x 2\npart a kept\n  read x\n  take')
        self.assertEqual({row[1] for row in sees(house, 'a', 'one')[1]}, {((-1,),), ((-1,), (-1,))})
        rows = {row[1] for row in sees(house, 'a', 'lawful')[1]}
        self.assertEqual(rows, {((-1,),), ((-1,), (-1,)), ((0,),), ((1,),), ((0,), (-1,)), ((1,), (-1,))})

    def test_one_worth_by_the_rules(self):
        house = House('key x 2\nkey y 2\nrule x = 1\nrule x = 0 or y = 0\npart a fresh\n  read x\n  read y\n  read x\n  read y')
        self.assertEqual([sees(house, 'a', manner)[0] for manner in MANNERS], ['breaks', 'breaks', 'always', 'always', 'breaks'])
        self.assertEqual({row[3] for row in sees(house, 'a', 'lawful')[1]}, {(-1, -1), (1, -1), (1, 0)})

    def test_an_editions_rules_bar_what_was_not_read(self):
        """x of the kept edition is 1, so y is 0 there, and no way leads below the if."""
        text = 'key x 2\nkey y 2\nrule x = 0 or y = 0\npart a kept\n  if x = 1\n    if y = 1\n      ask b\npart b fresh\n  read x'
        for manner in MANNERS:
            told = self.check(text, 'a', manner)
            self.assertEqual(told[0], 'breaks' if manner == 'begun' else 'always')
        self.assertNotIn(6, [row[0][0][0] for row in sees(House(text), 'a', 'each')[1]])

    def test_a_mark_and_an_own_that_are_held_no_more(self):
        text = 'key x 2\npart a fresh\n  read x\n  take\npart b once\n  ask c\n  take\npart c fresh\n  read x'
        table = sees(House(text), 'a', 'each')[1]
        self.assertEqual({row[0][0][2] for row in table}, {-1, 0, -2})
        self.assertEqual({row[-1] for row in sees(House(text), 'a', 'one')[1]}, {-1, 0, -2})
        self.assertEqual(sees(House(text), 'a', 'begun')[0], 'breaks')
        taking = House('key x 2\npart a once\n  read x\n  take\n  take')
        self.assertEqual({row[-1] for row in sees(taking, 'a', 'begun')[1]}, {0, -2})

    def test_marks_of_forward(self):
        text = 'key x 2\npart a once\n  ask b\n  take\n  read x\npart b fresh\n  read x\npart c kept\n  read x'
        told = self.check(text, 'a', 'forward')
        self.assertEqual((told[0], {row[-1] for row in told[1]}), ('always', {0, 1, 2}))

    def test_over_as_it_begins(self):
        house = House('key x 2\npart a once\n  end\n  read x\npart b kept\n  end\npart c fresh\n  read x')
        for part in ('a', 'b'):
            for manner in MANNERS:
                self.assertEqual(sees(house, part, manner), ('always', ()))
                self.assertIs(shows_sees(house, part, manner, ('always', ())), True)
        self.assertNotEqual(sees(house, 'c', 'one'), ('always', ()))
        self.assertIs(shows_sees(house, 'c', 'one', ('always', ())), False)

    def test_the_first_read_breaks_begun(self):
        house = House('key x 2\npart a kept\n  read x')
        word, run = sees(house, 'a', 'begun')
        self.assertEqual((word, len(run[0]), run[1:]), ('breaks', 2, ((0,), (('step', 0),))))

    def test_errors(self):
        house = House(DESK)
        for value in strange_values() + ['Shop', 'x', ('shop',), 'one']:
            for manner in ('one', 'all', None):
                raises(self, NoPart, value, sees, house, value, manner)
                raises(self, NoPart, value, shows_sees, house, value, manner, ('always', ()))
        for value in strange_values() + ['One', 'present', 'alike', ('one',), ['one'], 'lawful ']:
            raises(self, BadManner, value, sees, house, 'till', value)
            raises(self, BadManner, value, shows_sees, house, 'till', value, None)

    def test_arguments_by_name(self):
        house = House(DESK)
        told = sees(manner='one', part='till', house=house)
        self.assertEqual(told, sees(house, 'till', 'one'))
        self.assertIs(shows_sees(value=told, manner='one', part='till', house=house), True)


class TooManyTest(unittest.TestCase):
    def test_at_any_number(self):
        """With another number in the place of 4000: told just where more standings come by fewer events."""
        asked = set()
        for text in some_texts(31, 30, 5):
            house, home = House(text), Home(text)
            for manner in MANNERS:
                wanted = plain_search(home, 0, manner, 1500)
                if wanted is None or wanted[3] == 0:
                    continue
                word, _, _, ahead = wanted
                for most in (ahead - 1, ahead, ahead + 1):
                    with mock.patch.object(seeing, 'MOST_STANDINGS', most):
                        if most < ahead:
                            raises(self, TooMany, most, sees, house, home.parts[0], manner)
                        else:
                            self.assertEqual(sees(house, home.parts[0], manner)[0], word)
                asked.add((word, manner))
        self.assertEqual(len(asked), 10)

    def test_at_4000(self):
        for word, wanted, part, manner, text in NEAR:
            house, home = House(text), Home(text)
            jobs = all_starts(home, home.parts.index(part))
            starts = {standing_of(home, manner, job) for job in jobs}
            self.assertEqual(counted(home, manner, starts)[:2], (word, wanted))
            if wanted > 4000:
                raises(self, TooMany, 4000, sees, house, part, manner)
            else:
                told = sees(house, part, manner)
                self.assertEqual((told[0], word == 'breaks' or len(told[1]) == wanted), (word, True))
                self.assertIs(shows_sees(house, part, manner, told), True)

    def test_more_are_shown(self):
        """What sees would not tell is shown all the same."""
        word, wanted, part, manner, text = NEAR[3]
        house, home = House(text), Home(text)
        starts = {standing_of(home, manner, job) for job in all_starts(home, home.parts.index(part))}
        table = tuple(sorted(closure_of(home, manner, starts)))
        self.assertEqual((word, len(table)), ('always', wanted))
        self.assertIs(shows_sees(house, part, manner, ('always', table)), True)
        self.assertIs(shows_sees(house, part, manner, ('always', table[:-1])), False)
        word, _, part, manner, text = NEAR[1]
        steps = [('step', 1) if at in (1, 9) else ('step', 0) for at in range(11)]
        steps[6:8] = [('install', (1,)), ('renew', 'part')]
        run = (((0,),), (0, 0, 0), tuple(steps))
        self.assertEqual(word, 'breaks')
        self.assertIs(shows_sees(House(text), part, manner, ('breaks', run)), True)
        self.assertIs(shows_sees(House(text), part, manner, ('breaks', (*run[:2], run[2][:-1]))), False)


if __name__ == '__main__':
    unittest.main()
