"""ran and kept_manners: whole runs, by hand and beside plain works."""

import random
import unittest

import plain_runs
from plain_houses import some_texts
from samples import nested, raises, strange_values

from settledreads.errors import BadRun, NoPart
from settledreads.houses import House
from settledreads.running import kept_manners, ran

SHEET = 'key x 2\nkey y 3\nrule x = 0 or y != 2'
STEP = ('step', 0)
FREE = SHEET + '''
part top fresh
  read x
  ask mid
  read y
part mid once
  ask low
  read x
part low kept
  read y
part idle kept
  take'''


def install(*worths):
    return ('install', worths)


class RanTest(unittest.TestCase):
    def check(self, text, part, run, reads, places, manners=None):
        house = House(text)
        told = ran(house, part, run)
        self.assertEqual(told, (reads, places))
        self.assertEqual([value.__class__ for value in (told, *told)], [tuple] * 3)
        if manners is not None:
            self.assertEqual(kept_manners(house, part, run), manners)

    def test_several_openings(self):
        events = (
            STEP, STEP, install(1, 1), STEP, ('renew', 'idle'), STEP, STEP, install(1, 0), STEP,
        )
        run = (((0, 2), (0, 1)), (0, 1), events)
        reads = (('x', 0, 1), ('y', 2, 0), ('x', 0, 1), ('y', 0, 3))
        places = ((4,), (5,), (5, 8), (5, 8), (5, 8, 11), (5, 8, 11), (5, 9), (6,), (6,), ())
        for many in range(len(events) + 1):
            told = ran(House(FREE), 'top', (run[0], run[1], events[:many]))
            self.assertEqual(told[1], places[many])
            self.assertEqual(told[0], reads[:len(told[0])])
        self.check(FREE, 'top', run, reads, (), ())

    def test_each_way(self):
        text = 'key x 2\npart a {}\n  read x\n  take\n  ask b\n  read x\npart b {}\n  read x'
        events = (STEP, install(1), STEP, install(0), STEP, install(1), STEP, install(0), STEP)
        for first, second, kept, numbers in (
            ('fresh', 'fresh', (), (0, 3, 4)), ('once', 'once', (), (0, 2, 1)), ('once', 'handed', (), (0, 1, 1)),
            ('handed', 'handed', (), (0, 1, 1)), ('fresh', 'handed', (), (0, 2, 4)), ('once', 'kept', (0,), (0, 0, 1)),
            ('kept', 'handed', (0,), (0, 0, 0)), ('kept', 'kept', (0, 0), (0, 0, 0)), ('kept', 'fresh', (0,), (0, 3, 0)),
        ):
            worths = (0, 1, 0, 1, 0)
            reads = tuple([('x', worths[number], number) for number in numbers])
            self.check(text.format(first, second), 'a', (((0,),), kept, events), reads, ())

    def test_if_and_else(self):
        text = SHEET + '\npart a fresh\n  if y = 1\n    read x\n    if x = 1\n      end\n  else\n    read y\n  read x'
        self.check(text, 'a', (((1, 1),), (), ()), (), (4,))
        self.check(text, 'a', (((1, 1),), (), (STEP,)), (('y', 1, 0),), (5,))
        self.check(text, 'a', (((1, 1),), (), (STEP, STEP)), (('y', 1, 0), ('x', 1, 0)), (6,))
        self.check(text, 'a', (((1, 1),), (), (STEP,) * 3), (('y', 1, 0), ('x', 1, 0), ('x', 1, 0)), ())
        self.check(text, 'a', (((0, 1),), (), (STEP,) * 3), (('y', 1, 0), ('x', 0, 0), ('x', 0, 0)), (10,))
        self.check(text, 'a', (((0, 2),), (), (STEP,)), (('y', 2, 0),), (9,))
        self.check(text, 'a', (((0, 2),), (), (STEP, STEP)), (('y', 2, 0), ('y', 2, 0)), (10,))
        self.check(text, 'a', (((0, 2),), (), (STEP,) * 3), (('y', 2, 0), ('y', 2, 0), ('x', 0, 0)), ())

    def test_choose_in_a_loop(self):
        text = 'key x 2\npart a once\n  loop\n    choose\n      way\n        read x\n      way\n        end\n      way\n        take\n' \
            '        read x\n  take'
        loop, leave = ('step', 1), STEP
        for events, places in (
            ((), (2,)), ((leave,), (11,)), ((leave, STEP), ()), ((loop,), (3,)), ((loop, STEP), (5,)), ((loop, STEP, STEP), (2,)),
            ((loop, ('step', 1)), ()), ((loop, ('step', 2)), (9,)), ((loop, ('step', 2), STEP), (10,)), ((loop, ('step', 2), STEP, STEP), (2,)),
        ):
            self.assertEqual(ran(House(text), 'a', (((0,),), (), events))[1], places)

    def test_loop_in_a_choose(self):
        text = 'key x 2\npart a once\n  choose\n    way\n      loop\n        read x\n    way\n      take\n  read x'
        house = House(text)
        for events, places in (
            ((), (2,)), ((STEP,), (4,)), ((STEP, STEP), (8,)), ((STEP, ('step', 1)), (5,)), ((STEP, ('step', 1), STEP), (4,)),
            ((STEP, ('step', 1), STEP, STEP), (8,)), ((('step', 1),), (7,)), ((('step', 1), STEP), (8,)), ((('step', 1), STEP, STEP), ()),
        ):
            self.assertEqual(ran(house, 'a', (((0,),), (), events))[1], places)

    def test_over_at_once(self):
        text = 'key x 2\npart a once\n  ask b\n  ask c\n  read x\npart b once\n  ask c\n  ask d\npart c kept\n  end\n  read x\npart d once\n  end'
        self.check(text, 'd', (((0,),), (0,), ()), (), (), plain_runs.MANNERS)
        self.check(text, 'c', (((0,),), (0,), (install(1), ('renew', 'c'))), (), (), plain_runs.MANNERS)
        self.check(text, 'b', (((0,),), (0,), (STEP,)), (), (7,))
        self.check(text, 'b', (((0,),), (0,), (STEP, STEP)), (), ())
        self.check(text, 'a', (((0,),), (0,), (STEP, STEP, STEP)), (), (3,))
        self.check(text, 'a', (((0,),), (0,), (STEP, STEP, STEP, STEP)), (), (4,))
        self.check(text, 'a', (((0,),), (0,), (STEP,) * 5), (('x', 0, 0),), ())

    def test_an_end_in_a_loop_of_one_that_was_asked(self):
        text = 'key x 2\npart a once\n  loop\n    ask b\npart b once\n  loop\n    end'
        for events, places in (
            ((('step', 1),), (3,)), ((('step', 1), STEP), (3, 5)), ((('step', 1), STEP, ('step', 1)), (2,)), ((('step', 1), STEP, STEP), (2,)),
            ((STEP,), ()),
        ):
            self.check(text, 'a', (((0,),), (), events), (), places)

    def test_installs_of_the_same_worths(self):
        text = 'key x 2\npart a fresh\n  read x\n  read x\n  read x'
        run = (((1,),), (), (STEP, install(1), STEP, install(1), install(1), STEP))
        self.check(text, 'a', run, (('x', 1, 0), ('x', 1, 1), ('x', 1, 3)), (), ('forward', 'lawful'))

    def test_the_same_worths_among_editions(self):
        text = 'key x 2\npart a kept\n  read x\npart b kept\n  read x'
        self.check(text, 'a', (((1,), (1,), (1,)), (1, 0), (STEP,)), (('x', 1, 1),), (), ('each', 'forward', 'lawful', 'one'))
        self.check(text, 'b', (((1,), (1,)), (1, 0), (STEP,)), (('x', 1, 0),), (), ('each', 'forward', 'lawful', 'one'))
        self.check(text, 'a', (((1,), (1,)), (1, 0), (STEP,)), (('x', 1, 1),), (), plain_runs.MANNERS)

    def test_renew_of_the_present_edition(self):
        text = 'key x 2\npart a once\n  ask b\n  ask b\npart b kept\n  read x'
        run = (((1,),), (0,), (('renew', 'b'), ('renew', 'b'), STEP, STEP, install(0), ('renew', 'b'), ('renew', 'b'), STEP, STEP))
        self.check(text, 'a', run, (('x', 1, 0), ('x', 0, 1)), (), ('each', 'forward'))
        run = (*run[:2], (*run[2], install(1), ('renew', 'b'), install(0)))
        self.check(text, 'a', run, (('x', 1, 0), ('x', 0, 1)), ())

    def test_each_manner_kept_and_broken(self):
        text = 'key x 2\nkey y 2\nrule x = 0 or y = 0\npart a fresh\n  read x\n  ask b\n  ask c\npart b kept\n  read y\npart c fresh\n  read y'
        older, newer = (0, 1), (1, 0)
        for editions, kept, events, manners in (
            ((newer,), (0,), (STEP,) * 3, plain_runs.MANNERS),
            ((older, newer), (0,), (STEP,) * 3, ('each',)),
            ((newer, newer), (0,), (STEP,) * 3, ('each', 'lawful')),
            ((newer,), (0,), (STEP, install(0, 0), STEP, STEP), ('begun', 'each', 'forward', 'lawful', 'one')),
            ((newer,), (0,), (STEP, install(0, 0), ('renew', 'b'), STEP, STEP), ('each', 'forward', 'lawful')),
            ((newer,), (0,), (STEP, install(0, 1), ('renew', 'b'), STEP, STEP), ('each', 'forward')),
            ((newer,), (0,), (install(0, 1), ('renew', 'b'), STEP, STEP, STEP), ('each', 'forward', 'lawful', 'one')),
        ):
            self.assertEqual(kept_manners(House(text), 'a', (editions, kept, events)), manners)
        twice = 'key x 2\npart a fresh\n  read x\n  read x'
        run = (((1,),), (), (STEP, install(0), STEP))
        self.assertEqual(kept_manners(House(twice), 'a', run), ('forward',))
        self.assertEqual(kept_manners(House(twice), 'a', (run[0], (), run[2][:2])), plain_runs.MANNERS)

    def test_random_runs(self):
        source = random.Random(11)
        told = set()
        for text in some_texts(12, 150):
            house, home = House(text), plain_runs.Home(text)
            for part in range(len(home.parts)):
                told |= self.check_random(source, house, home, part)
        self.assertEqual({manner for manner, _ in told}, set(plain_runs.MANNERS))
        self.assertEqual(len(told), 10)

    def check_random(self, source, house, home, part):
        kept = [source.randint(0, 2) for _ in home.kept_parts]
        numbers = sorted(set(kept))
        kept = tuple([numbers.index(number) for number in kept])
        editions = tuple([source.choice(home.sheet.editions) for _ in range(len(numbers) + source.randint(0, 1))] or [home.sheet.editions[0]])
        job = plain_runs.begun(home, part, editions, kept)
        told = set()
        events = []
        for _ in range(16):
            run = (editions, kept, tuple(events))
            reads = tuple([(home.names[row[2]], row[3], row[1]) for row in job.reads])
            self.assertEqual(ran(house, home.parts[part], run), (reads, tuple([row[1] for row in job.stack])))
            manners = tuple([manner for manner in plain_runs.MANNERS if not plain_runs.is_broken(home, manner, job)])
            self.assertEqual(kept_manners(house, home.parts[part], run), manners)
            told |= {(manner, manner in manners) for manner in plain_runs.MANNERS}
            can = plain_runs.events_of(home, job)
            self.check_wrong(house, home, part, run, can)
            steps = [event for event in can if event[0] == 'step']
            events.append(source.choice(steps if steps and source.random() < 0.7 else can))
            job = plain_runs.came(home, job, events[-1])
        return told

    def check_wrong(self, house, home, part, run, can):
        """Each event that cannot come is told with its number."""
        for event in [('step', n) for n in range(4)] + [('renew', name) for name in home.parts]:
            if event not in can:
                wrong = (run[0], run[1], (*run[2], event, None))
                raises(self, BadRun, len(run[2]) + 1, ran, house, home.parts[part], wrong)

    def test_arguments_by_name(self):
        run = (((0, 0),), (0, 0), ())
        self.assertEqual(ran(run=run, part='low', house=House(FREE)), ((), (11,)))
        self.assertEqual(kept_manners(run=run, part='low', house=House(FREE)), plain_runs.MANNERS)


class BadRunTest(unittest.TestCase):
    def check(self, number, run, part='top', text=FREE):
        for call in (ran, kept_manners):
            raises(self, BadRun, number, call, House(text), part, run)

    def test_no_part(self):
        for value in strange_values() + ['Top', 'x', ('top',)]:
            for call in (ran, kept_manners):
                raises(self, NoPart, value, call, House(FREE), value, None)
                raises(self, NoPart, value, call, House(FREE), value, (((0, 0),), (0, 0), ()))

    def test_no_run(self):
        run = (((0, 0),), (0, 0), ())
        self.assertEqual(ran(House(FREE), 'top', run), ((), (4,)))
        for value in strange_values() + [list(run), run[:2], (*run, ()), (run,), (run[0], run[1]), (*run[:2], []), (*run[:2], None)]:
            self.check(0, value)
        for value in strange_values():
            if not isinstance(value, tuple):
                self.check(0, (run[0], run[1], value))
            if value != ((0, 0),):
                self.check(0, (value, run[1], ()))
            self.check(0, (run[0], value, ()))

    def test_editions(self):
        for edition in (
            (0, 3), (1, 2), (2, 0), (0,), (0, 0, 0), (), [0, 0], None, (0, None), (False, 0), (0, True), (-1, 0), (0, '0'), 'ab', 0, ((0, 0),),
            (0, [0]), {0: 0},
        ):
            self.check(0, ((edition,), (0, 0), ()))
            self.check(0, ((edition, (0, 0)), (0, 0), ()))
            self.check(0, (((0, 0), edition), (0, 0), ()))
            self.check(1, (((0, 0),), (0, 0), (('install', edition),)))
            self.check(2, (((0, 0),), (0, 0), (STEP, ('install', edition))))
        self.check(0, ((), (0, 0), ()))
        self.check(0, ([(0, 0)], (0, 0), ()))

    def test_editions_that_no_kept_part_keeps(self):
        rows = ((0, 0), (0, 1), (1, 1))
        for many, kept in (
            (2, (1, 1)), (3, (2, 2)), (3, (0, 0)), (3, (0, 2)), (3, (1, 2)), (3, (1, 1)), (3, (2, 1)),
        ):
            self.check(0, (rows[:many], kept, ()))
        for many, kept in ((1, (0, 0)), (2, (0, 0)), (2, (0, 1)), (2, (1, 0)), (3, (0, 1)), (3, (1, 0))):
            ran(House(FREE), 'top', (rows[:many], kept, ()))
        ran(House(FREE), 'top', ((*rows, (0, 0))[:3], (1, 0), ()))
        self.check(0, ((*rows, (0, 0)), (0, 1), ()))
        without = 'key x 2\npart a once\n  read x'
        self.check(0, (((0,), (1,)), (), ()), 'a', without)
        self.check(0, (((0,),), (0,), ()), 'a', without)

    def test_kept(self):
        editions = ((0, 0), (0, 1))
        for kept in (
            (), (0,), (0, 0, 0), (0, 1, 1), [0, 1], (0, 2), (2, 0), (0, -1), (0, True), (False, 1), (0, None), (0, '1'), (0, (1,)), None, 0,
            '01', {0: 1}, (0, 10 ** 30),
        ):
            self.check(0, (editions, kept, ()))
            self.check(0, (editions, kept, (STEP,)))

    def test_wrong_events(self):
        wrong = (
            ('step',), ('step', 0, 0), ('step', None), ('step', False), ('step', True), ('step', '0'), ('step', (0,)), ('step', -1), ('step', 1),
            ('install',), ('install', 0), ('install', 0, 0), ('renew',), ('renew', 'top'), ('renew', 'mid'), ('renew', 'zz'), ('renew', None),
            ('renew', 0), ('renew', 'low', 'idle'), ('renew', ('low',)), ('ask', 'low'), ('begin', 'low'), ('Renew', 'low'), (None, 'low'), ('read',), ('take',), ('begin', 'top'), ('ask', 'mid'), ('back',),
            ['step', 0], ['renew', 'low'], 'step', None, 0, True, (), {}, ('Step', 0), (None, 0), (('step', 0),), nested(30), ('', ''),
        )
        for event in wrong + tuple(strange_values()):
            self.check(1, (((0, 0),), (0, 0), (event,)))
            self.check(2, (((0, 0),), (0, 0), (STEP, event, STEP)))
            self.check(4, (((0, 0),), (0, 0), (STEP, ('install', (0, 0)), ('renew', 'low'), event)))
            self.check(2, (((0, 0),), (0, 0), (STEP, event)), 'idle')

    def test_numbers_of_steps(self):
        text = 'key x 2\npart a once\n  choose\n    way\n      end\n    way\n      loop\n        read x\n      ask b\n      take\n      if x = 0\n' \
            '        end\n    way\n      end\npart b once\n  read x'
        self.assertEqual([ran(House(text), 'a', (((0,),), (), (('step', n),)))[1] for n in range(3)], [(), (6,), ()])
        ahead = [('step', 1)]
        for event, wrong in (
            (None, (3, -1)), (('step', 0), (2, 3, -1)), (STEP, (1, -1)), (STEP, (1, 2)), (STEP, (1,)), (STEP, (1,)), (STEP, (0, 1, 2)),
        ):
            rows = [] if event is None else list(ahead)
            for n in wrong:
                self.check(len(rows) + 1, (((0,),), (), (*rows, ('step', n))), 'a', text)
            if event is not None:
                ahead.append(event)

    def test_steps_of_a_work_that_is_over(self):
        for part, many in (('low', 1), ('idle', 1), ('mid', 3), ('top', 6)):
            run = (((0, 0),), (0, 0), (STEP,) * many)
            self.assertEqual(ran(House(FREE), part, run)[1], ())
            self.check(many + 1, (*run[:2], (*run[2], STEP)), part)
            self.check(many + 3, (*run[:2], (*run[2], install(0, 0), ('renew', 'low'), STEP)), part)
        self.check(1, (((0,),), (), (STEP,)), 'a', 'key x 2\npart a once\n  end')
        self.check(2, (((0,),), (), (install(1), STEP)), 'a', 'key x 2\npart a once\n  end\n  read x')

    def test_renew_of_what_is_open(self):
        self.check(1, (((0, 0),), (0, 0), (('renew', 'low'),)), 'low')
        self.check(4, (((0, 0),), (0, 0), (STEP, STEP, STEP, ('renew', 'low'))))
        ran(House(FREE), 'top', (((0, 0),), (0, 0), (STEP, STEP, STEP, STEP, ('renew', 'low'))))
        ran(House(FREE), 'low', (((0, 0),), (0, 0), (STEP, ('renew', 'low'))))
        asked = 'key x 2\npart a kept\n  ask b\n  read x\npart b once\n  read x'
        self.check(2, (((0,),), (0,), (STEP, ('renew', 'a'))), 'a', asked)
        self.check(3, (((0,),), (0,), (STEP, STEP, ('renew', 'a'))), 'a', asked)

    def test_the_first_wrong_event(self):
        self.check(1, (((0, 0),), (0, 0), (None, None)))
        self.check(0, (((0, 0),), (0,), (None, None)))


if __name__ == '__main__':
    unittest.main()
