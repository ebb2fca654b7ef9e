import random
import unittest

import plain_stories
from samples import nested, raises, strange_values

from settledreads.errors import BadFirsts, BadStory
from settledreads.plans import Plan
from settledreads.stories import reads_of

READ = ('read',)
TAKE = ('take',)
BACK = ('back',)
INSTALL = ('install',)


def begin(part):
    return ('begin', part)


def ask(part):
    return ('ask', part)


def renew(part):
    return ('renew', part)


class ReadsTest(unittest.TestCase):
    def check(self, text, firsts, story, reads):
        told = reads_of(Plan(text), firsts, story)
        self.assertEqual(told, reads)
        self.assertEqual(told.__class__, tuple)

    def test_each_way_by_itself(self):
        story = (begin('a'), READ, INSTALL, READ, INSTALL, INSTALL, READ)
        for way, firsts, numbers in (
            ('fresh', (), (0, 1, 3)), ('once', (), (0, 0, 0)), ('handed', (), (0, 0, 0)),
            ('kept', (0,), (0, 0, 0)), ('kept', (-1,), (-1, -1, -1)), ('kept', (-4,), (-4, -4, -4)),
        ):
            self.check(f'part a {way}', firsts, story, tuple([('a', number) for number in numbers]))

    def test_take_in_each_way(self):
        story = (begin('a'), INSTALL, READ, TAKE, READ, INSTALL, READ, TAKE, TAKE, READ)
        for way, firsts, numbers in (
            ('fresh', (), (1, 1, 2, 2)), ('once', (), (0, 1, 1, 2)), ('handed', (), (0, 1, 1, 2)), ('kept', (-2,), (-2, -2, -2, -2)),
        ):
            self.check(f'part a {way} takes', firsts, story, tuple([('a', number) for number in numbers]))

    def test_what_is_handed(self):
        story = (begin('a'), INSTALL, ask('b'), READ, INSTALL, READ, BACK, INSTALL, ask('b'), READ)
        for way, firsts, numbers in (
            ('fresh', (), (1, 1, 3)), ('once', (), (0, 0, 0)), ('handed', (), (0, 0, 0)), ('kept', (-3,), (-3, -3, -3)),
        ):
            self.check(f'part a {way}\npart b handed', firsts, story, tuple([('b', number) for number in numbers]))

    def test_once_when_asked(self):
        story = (begin('a'), INSTALL, ask('b'), READ, INSTALL, READ, BACK, READ, ask('b'), READ)
        self.check('part a once\npart b once', (), story, (('b', 1), ('b', 1), ('a', 0), ('b', 2)))

    def test_fresh_and_kept_beside_one_another(self):
        text = 'part a once\npart b kept\npart c fresh\npart d kept takes'
        story = (
            begin('a'), ask('b'), READ, ask('c'), INSTALL, READ, renew('d'), ask('d'), READ, INSTALL, TAKE, READ, BACK, renew('d'),
            ask('d'), READ, BACK, BACK, READ, BACK, renew('b'), ask('b'), READ, BACK, READ,
        )
        reads = (('b', -2), ('c', 1), ('d', 1), ('d', 1), ('d', 2), ('b', -2), ('b', 2), ('a', 0))
        self.check(text, (-2, -1), story, reads)

    def test_what_the_asker_has_taken_is_handed(self):
        text = 'part a once takes\npart b handed takes\npart c handed'
        story = (begin('a'), INSTALL, ask('b'), ask('c'), READ, BACK, TAKE, ask('c'), READ, BACK, READ, BACK, READ, TAKE, ask('c'), READ)
        self.check(text, (), story, (('c', 0), ('c', 1), ('b', 1), ('a', 0), ('c', 1)))

    def test_what_was_handed_stays(self):
        text = 'part a kept\npart b handed\npart c once\npart d kept'
        story = (begin('a'), ask('b'), INSTALL, renew('d'), READ, ask('d'), READ)
        self.check(text, (-1, -1), story, (('b', -1), ('d', 1)))

    def test_renew_behind_the_end(self):
        story = (begin('a'), READ, BACK, INSTALL, renew('a'), renew('b'), INSTALL)
        self.check('part a kept\npart b kept', (-1, 0), story, (('a', -1),))

    def test_begin_at_any_part(self):
        text = 'part a once\npart b kept\npart c handed'
        self.check(text, (-3,), (begin('b'), ask('c'), READ), (('c', -3),))
        self.check(text, (-3,), (begin('c'), INSTALL, READ), (('c', 0),))

    def test_names_like_words(self):
        text = 'part read once takes\npart begin kept\npart renew handed'
        story = (begin('read'), ask('begin'), READ, ask('renew'), READ, BACK, BACK, renew('begin'))
        self.check(text, (-1,), story, (('begin', -1), ('renew', -1)))

    def test_the_empty_story(self):
        self.check('part a once', (), (), ())

    def test_arguments_by_name(self):
        self.assertEqual(reads_of(story=(begin('a'), READ), firsts=(), plan=Plan('part a once')), (('a', 0),))

    def test_random_stories_and_their_beginnings(self):
        source = random.Random(3)
        for _ in range(400):
            plan = Plan(plain_stories.plan_text(plain_stories.some_rows(source, source.randint(1, 4), 1)[0]))
            firsts = tuple([source.randint(-4, 0) for way in plan.ways if way == 'kept'])
            part = source.randrange(len(plan.parts))
            work = plain_stories.begun(plan, part, firsts)
            story = [begin(plan.parts[part])]
            for at in range(source.randint(0, 16)):
                self.check(plan.text, firsts, tuple(story), tuple([(plan.parts[row[1]], row[2]) for row in work.reads]))
                event = source.choice(plain_stories.events_of(plan, work))
                if event != BACK or source.random() < 0.4:
                    story.append(event)
                    work = plain_stories.came(plan, work, event)


class BadFirstsTest(unittest.TestCase):
    def check(self, text, firsts):
        for story in ((), (begin('a'),), (READ,), None, [begin('a')]):
            raises(self, BadFirsts, firsts, reads_of, Plan(text), firsts, story)

    def test_too_many_and_too_few(self):
        for firsts in ((0,), (0, 0), (-1, -1, -1)):
            self.check('part a once\npart b fresh', firsts)
        for firsts in ((), (0,), (0, 0, 0)):
            self.check('part a kept\npart b once\npart c kept', firsts)

    def test_wrong_numbers(self):
        for number in (-5, 1, -6, 2, 10 ** 30, -10 ** 30, True, False, None, '0', 'x', (0,), [0], {}, 0.0):
            self.check('part a kept', (number,))
            self.check('part a kept\npart b kept', (0, number))
            self.check('part a kept\npart b kept', (number, -4))

    def test_no_tuple(self):
        for firsts in strange_values() + [[0], [-1], {0: 0}]:
            if firsts != (0,):
                self.check('part a kept', firsts)
        for firsts in strange_values():
            if firsts != ():
                self.check('part a once', firsts)

    def test_edges(self):
        for number in (-4, -3, -2, -1, 0):
            self.assertEqual(reads_of(Plan('part a kept'), (number,), (begin('a'), READ)), (('a', number),))


class BadStoryTest(unittest.TestCase):
    TEXT = 'part a once\npart b kept takes\npart c handed\npart d kept'
    FIRSTS = (-1, 0)

    def check(self, number, story, text=TEXT, firsts=FIRSTS):
        raises(self, BadStory, number, reads_of, Plan(text), firsts, story)

    def ahead(self):
        """Beginnings of stories, with whether the work is over."""
        return [
            ((begin('a'),), False), ((begin('a'), READ, INSTALL, ask('b')), False), ((begin('a'), BACK), True),
            ((begin('b'), TAKE, READ, BACK, renew('b')), True), ((begin('a'), ask('c'), ask('d'), INSTALL), False),
        ]

    def test_no_tuple(self):
        for story in strange_values() + [[], [begin('a')], [('begin', 'a'), ('read',)], {}, 'begin', None]:
            if not isinstance(story, tuple):
                self.check(0, story)

    def test_another_first_event(self):
        for event in (READ, TAKE, BACK, INSTALL, ask('a'), ask('b'), renew('b'), ('start', 'a'), 'begin', ['begin', 'a']):
            self.check(1, (event,))
            self.check(1, (event, begin('a')))
            self.check(1, (event, begin('a'), READ))

    def test_begin_later(self):
        for rows, _ in self.ahead():
            for part in 'abcd':
                self.check(len(rows) + 1, (*rows, begin(part)))
                self.check(len(rows) + 1, (*rows, begin(part), READ, None))

    def test_no_part(self):
        for part in ('e', '', 'A', 'begin', None, 0, True, ('a',), ['a'], b'a'):
            self.check(1, (('begin', part),))
            for rows, _ in self.ahead():
                for word in ('ask', 'renew', 'begin'):
                    self.check(len(rows) + 1, (*rows, (word, part)))

    def test_when_the_work_is_over(self):
        for rows, is_over in self.ahead():
            for event in (READ, BACK, TAKE, ask('b'), ask('c'), ask('d')):
                if is_over:
                    self.check(len(rows) + 1, (*rows, event))
                    self.check(len(rows) + 3, (*rows, INSTALL, renew('d'), event, INSTALL))
        self.check(4, (begin('a'), ask('b'), BACK, TAKE))
        self.check(5, (begin('a'), ask('b'), BACK, BACK, BACK))

    def test_ask_of_itself_and_of_one_above(self):
        for at, part in enumerate('abcd'):
            for other in 'abcd'[:at + 1]:
                self.check(2, (begin(part), ask(other)))
        self.check(3, (begin('a'), ask('c'), ask('b')))
        self.check(3, (begin('a'), ask('c'), ask('a')))
        self.check(3, (begin('a'), ask('c'), ask('c')))

    def test_take_of_one_that_does_not(self):
        for part in 'acd':
            self.check(2, (begin(part), TAKE))
            self.check(4, (begin(part), READ, INSTALL, TAKE, READ))
        self.check(4, (begin('a'), ask('b'), ask('c'), TAKE))
        for way, firsts in (('fresh', ()), ('once', ()), ('handed', ()), ('kept', (0,))):
            self.check(2, (begin('a'), TAKE), f'part a {way}', firsts)

    def test_renew_that_cannot_be(self):
        for part in 'ac':
            self.check(2, (begin('a'), renew(part)))
            self.check(3, (begin('a'), BACK, renew(part)))
        self.check(2, (begin('b'), renew('b')))
        self.check(3, (begin('a'), ask('b'), renew('b')))
        self.check(5, (begin('a'), ask('b'), ask('d'), INSTALL, renew('b')))
        self.check(4, (begin('b'), ask('d'), INSTALL, renew('d')))

    def test_wrong_forms(self):
        wrong = (
            ('read', 'a'), ('read', 0), ('take', 'b'), ('back', 'b'), ('install', 0), ('install', (0,)), ('ask',), ('renew',),
            ('ask', 'b', 'c'), ('renew', 'd', 'd'), ('begin',), (), ('reads',), ('Read',), ('',), (None,), (0,), (('read',),),
            ['read'], ['ask', 'b'], ['renew', 'd'], 'read', 'install', None, 0, True, {}, {'read': 1}, b'read', ('step', 0), nested(30),
        )
        for event in wrong + tuple(strange_values()):
            self.check(1, (event,))
            for rows, _ in self.ahead():
                self.check(len(rows) + 1, (*rows, event))
                self.check(len(rows) + 1, (*rows, event, event))
        self.check(1, (('begin', 'a', 'b'),))

    def test_random_stories_with_one_wrong_event(self):
        source = random.Random(4)
        events = [READ, TAKE, BACK, INSTALL] + [(word, part) for word in ('begin', 'ask', 'renew') for part in 'abcde']
        for _ in range(300):
            plan = Plan(plain_stories.plan_text(plain_stories.some_rows(source, 4, 1)[0]))
            firsts = tuple([source.randint(-4, 0) for way in plan.ways if way == 'kept'])
            work = plain_stories.begun(plan, 0, firsts)
            story = [begin('d')]
            for _ in range(source.randint(0, 8)):
                event = source.choice(plain_stories.events_of(plan, work))
                story.append(event)
                work = plain_stories.came(plan, work, event)
            can = plain_stories.events_of(plan, work)
            for event in events:
                if event not in can:
                    self.check(len(story) + 1, (*story, event), plan.text, firsts)


if __name__ == '__main__':
    unittest.main()
