"""Guarantees (a) to (c): what is told of a house, or of a plan, beside works that go on at random."""

import itertools
import random
import unittest

import plain_stories
from plain_houses import WAYS, some_texts
from plain_runs import MANNERS, Home, begun, came, events_of

from settledreads.errors import TooMany
from settledreads.houses import House
from settledreads.plans import Plan
from settledreads.running import kept_manners, ran
from settledreads.seeing import sees, shows_sees
from settledreads.stories import alike_all, keeps_all, reads_of, shows_keeps_all


def random_run(source, home, part, many):
    """A run of a work that begins with the part of this number."""
    numbers = [source.randint(0, 2) for _ in home.kept_parts]
    elder = sorted(set(numbers))
    kept = tuple([elder.index(number) for number in numbers])
    editions = tuple([source.choice(home.sheet.editions) for _ in range(max(1, len(elder)))])
    job = begun(home, part, editions, kept)
    events = []
    for _ in range(many):
        can = events_of(home, job)
        steps = [event for event in can if event[0] == 'step']
        events.append(source.choice(steps if steps and source.random() < 0.6 else can))
        job = came(home, job, events[-1])
    return editions, kept, tuple(events)


def story_of(home, part, run):
    """(firsts, story) that tell of the run what a plan can tell."""
    editions, kept, events = run
    present = len(editions) - 1
    job = begun(home, part, editions, kept)
    story = [('begin', home.parts[part])]
    story += [('back',)] * (not job.stack)
    for event in events:
        later = came(home, job, event)
        if event[0] != 'step':
            story.append(event if event[0] == 'renew' else ('install',))
        else:
            story += story_of_step(home, job, later)
        job = later
    return tuple([number - present for number in kept]), tuple(story)


def story_of_step(home, job, later):
    """The events of a step: what is done, and what is over behind it."""
    node = home.nodes[job.stack[-1][1]]
    told = {'read': [('read',)], 'if': [('read',)], 'take': [('take',)]}.get(node.kind, [])
    many = len(job.stack)
    if node.kind == 'ask':
        told = [('ask', node.words[1])]
        many += 1
    return told + [('back',)] * (many - len(later.stack))


class EveryHistoryTest(unittest.TestCase):
    def test_what_is_always_so_is_so_in_every_run(self):
        source = random.Random(41)
        broken = set()
        for text in some_texts(42, 60, 6):
            home, house = Home(text), House(text)
            for part, name in enumerate(home.parts):
                always = [manner for manner in MANNERS if self.word(house, name, manner) == 'always']
                for _ in range(25):
                    run = random_run(source, home, part, source.randint(3, 14))
                    manners = kept_manners(house, name, run)
                    self.assertTrue(set(always) <= set(manners), (text, name, run))
                    broken |= set(MANNERS) - set(manners)
        self.assertEqual(broken, set(MANNERS))

    def word(self, house, part, manner):
        try:
            told = sees(house, part, manner)
        except TooMany:
            return 'many'
        self.assertIs(shows_sees(house, part, manner, told), True)
        if told[0] == 'breaks':
            self.assertNotIn(manner, kept_manners(house, part, told[1]))
        return told[0]

    def test_what_a_plan_tells_is_so_in_every_story(self):
        source = random.Random(43)
        for rows in plain_stories.some_rows(source, 3, 30):
            plan = Plan(plain_stories.plan_text(rows))
            for part, name in enumerate(plan.parts):
                for manner in plain_stories.MANNERS:
                    if keeps_all(plan, name, manner)[0] == 'always':
                        self.check_stories(source, plan, part, manner)

    def check_stories(self, source, plan, part, manner):
        for _ in range(8):
            firsts = tuple([source.randint(-4, 0) for way in plan.ways if way == 'kept'])
            work = plain_stories.begun(plan, part, firsts)
            for _ in range(12):
                work = plain_stories.came(plan, work, source.choice(plain_stories.events_of(plan, work)))
            self.assertFalse(plain_stories.is_broken(manner, work))


class EveryWorkTest(unittest.TestCase):
    def test_what_a_plan_keeps_each_house_with_these_ways_keeps(self):
        told = set()
        source = random.Random(44)
        for text in some_texts(45, 50, 7):
            house = House(text)
            for _ in range(3):
                house = house.with_ways(tuple([source.choice(WAYS) for _ in house.plan.parts]))
                for part, manner in itertools.product(house.plan.parts, plain_stories.MANNERS):
                    told.add(self.check(house, part, manner))
        self.assertEqual({row for row in told if row is not None}, {('always', 'always'), ('breaks', 'always'), ('breaks', 'breaks')})

    def check(self, house, part, manner):
        by_plan = keeps_all(house.plan, part, manner)
        try:
            by_house = sees(house, part, manner)
        except TooMany:
            return None
        if by_house[0] == 'breaks':
            home = Home(house.text)
            firsts, story = story_of(home, home.parts.index(part), by_house[1])
            while story[-1] == ('back',):
                story = story[:-1]
            self.assertIs(shows_keeps_all(house.plan, part, manner, ('breaks', firsts, story)), True)
        return by_plan[0], by_house[0]

    def test_a_run_reads_what_its_story_reads(self):
        source = random.Random(46)
        for text in some_texts(47, 120, 8):
            home, house = Home(text), House(text)
            for part, name in enumerate(home.parts):
                run = random_run(source, home, part, 14)
                firsts, story = story_of(home, part, run)
                present = len(run[0]) - 1
                numbers = [number - present for _, _, number in ran(house, name, run)[0]]
                self.assertEqual([number for _, number in reads_of(house.plan, firsts, story)], numbers)


class AlikeTest(unittest.TestCase):
    def test_where_plans_are_alike_no_work_reads_anything_else(self):
        source = random.Random(48)
        told = {'alike': 0, 'apart': 0}
        for text in some_texts(49, 400, 6):
            house = House(text)
            ways = tuple([source.choice([way, 'once', 'handed']) if way in ('once', 'handed') else way for way in house.plan.ways])
            other = house.with_ways(ways)
            if other == house:
                continue
            word = alike_all(house.plan, other.plan)[0]
            self.assertEqual(alike_all(other.plan, house.plan)[0], word)
            told[word] += 1
            if word == 'alike':
                for _ in range(10):
                    self.check_reads(source, house, other)
        self.assertTrue(told['alike'] > 20 and told['apart'] > 20, told)

    def check_reads(self, source, house, other):
        home = Home(house.text)
        part = source.randrange(len(home.parts))
        run = random_run(source, home, part, 14)
        self.assertEqual(ran(house, home.parts[part], run), ran(other, home.parts[part], run))


if __name__ == '__main__':
    unittest.main()
