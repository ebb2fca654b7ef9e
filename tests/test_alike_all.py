"""alike_all and shows_alike_all, beside a plain search in which two works go by the same events."""

import itertools
import random
import unittest

from plain_stories import (
    are_apart, both_greatest, both_search, both_stories, both_told, kept_in_one, plan_text, some_rows,
)
from samples import raises, strange_values
from wrong_things import leaf_changes, no_results, table_changes

from settledreads.errors import Unlike
from settledreads.plans import Plan
from settledreads.stories import alike_all, shows_alike_all

READ = ('read',)
WAYS = ('fresh', 'once', 'handed', 'kept')


def other_ways(source, rows):
    """The rows with other ways for some parts, the takes as they are."""
    return [(source.choice(WAYS) if source.random() < 0.4 else way, takes) for way, takes in rows]


class AlikeAllTest(unittest.TestCase):
    def check(self, plan, other):
        told = alike_all(plan, other)
        word, found = both_search(plan, other)
        self.assertEqual((told.__class__, told[0]), (tuple, word))
        if word == 'alike':
            self.assertEqual(told, ('alike', tuple(sorted(found))))
        else:
            self.check_story(plan, other, told, found)
        self.assertIs(shows_alike_all(plan, other, told), True)
        return told

    def check_story(self, plan, other, told, many):
        _, firsts, story = told
        self.assertEqual((firsts.__class__, story.__class__, len(story)), (tuple, tuple, many))
        self.assertEqual((len(firsts), story[-1]), (len(kept_in_one(plan, other)), READ))
        self.assertTrue(all([-4 <= number <= 0 for number in firsts]))
        works = both_told(plan, other, firsts, story)
        self.assertEqual([are_apart(both) for both in works], [False] * (many - 1) + [True])

    def test_one_and_two_parts(self):
        words = set()
        for many in (1, 2):
            for takes in itertools.product((False, True), repeat=many):
                for ways in itertools.product(WAYS, repeat=many):
                    for others in itertools.product(WAYS, repeat=many):
                        plan, other = [Plan(plan_text(list(zip(row, takes)))) for row in (ways, others)]
                        words.add((self.check(plan, other)[0], plan == other))
        self.assertEqual(words, {('alike', True), ('alike', False), ('apart', False)})

    def test_three_and_four_parts(self):
        source = random.Random(9)
        for many, count in ((3, 60), (4, 14)):
            for rows in some_rows(source, many, count):
                plan, other = Plan(plan_text(rows)), Plan(plan_text(other_ways(source, rows)))
                self.assertEqual(self.check(plan, other)[0], self.check(other, plan)[0])

    def test_the_first_part_handed_or_once(self):
        told = alike_all(Plan('part a once'), Plan('part a handed'))
        self.assertEqual(told, ('alike', ((((0, 0, 0),), (), 0), (((0, 0, 0),), (), 1))))
        told = alike_all(Plan('part a fresh takes'), Plan('part a fresh takes'))
        self.assertEqual(told, ('alike', ((((0, -1, -1),), (), 0),)))

    def test_kept_by_one_of_both(self):
        """Where a part is kept by one plan alone, renew and firsts are meant of it all the same."""
        for way in ('fresh', 'once', 'handed'):
            for one, other in (('kept', way), (way, 'kept')):
                told = alike_all(Plan(f'part a {one}'), Plan(f'part a {other}'))
                self.assertEqual((told[0], told[1][0] < 0, told[2]), ('apart', True, (('begin', 'a'), READ)))
        one, other = Plan('part a once\npart b kept'), Plan('part a once\npart b fresh')
        apart = (('begin', 'a'), ('install',), ('ask', 'b'), READ)
        self.assertIs(shows_alike_all(one, other, ('apart', (0,), apart)), True)
        self.assertIs(shows_alike_all(other, one, ('apart', (0,), apart)), True)
        renewed = (('begin', 'a'), ('install',), ('renew', 'b'), ('ask', 'b'), READ)
        self.assertIs(shows_alike_all(one, other, ('apart', (0,), renewed)), False)
        later = (*renewed, ('install',), READ)
        self.assertIs(shows_alike_all(one, other, ('apart', (0,), later)), True)
        for story in (apart, later):
            for firsts in ((), (0, 0), (1,), (-5,), [0], (False,)):
                self.assertIs(shows_alike_all(one, other, ('apart', firsts, story)), False)
        for story in ((('begin', 'b'), ('renew', 'b'), READ), (('begin', 'b'), ('renew', 'a'), ('install',), READ)):
            self.assertIs(shows_alike_all(one, other, ('apart', (-1,), story)), False)

    def test_unlike(self):
        plan = Plan('part a once\npart b kept takes')
        for value in strange_values() + [plan.text, plan.parts, [plan]]:
            raises(self, Unlike, value, alike_all, plan, value)
            raises(self, Unlike, value, shows_alike_all, plan, value, ('alike', ()))
        for text in (
            'part a once', 'part b kept takes\npart a once', 'part a once\npart c kept takes', 'part a once\npart b kept',
            'part a once takes\npart b kept takes', 'part a once takes\npart b kept', 'part a once\npart b kept takes\npart c once',
        ):
            other = Plan(text)
            for one, two in ((plan, other), (other, plan)):
                raises(self, Unlike, two, alike_all, one, two)
                raises(self, Unlike, two, shows_alike_all, one, two, None)
        self.assertEqual(alike_all(plan, Plan('part a fresh\npart b fresh takes'))[0], 'apart')

    def test_arguments_by_name(self):
        plan = Plan('part a once')
        told = alike_all(other=Plan('part a fresh'), plan=plan)
        self.assertEqual(told[0], 'apart')
        self.assertIs(shows_alike_all(value=told, other=Plan('part a fresh'), plan=plan), True)


class ShowsTest(unittest.TestCase):
    PAIRS = (
        ('part b once\npart a handed takes', 'part b handed\npart a handed takes'), ('part b kept\npart a handed', 'part b kept\npart a handed'),
        ('part b fresh\npart a once', 'part b fresh\npart a handed'), ('part b once\npart a kept', 'part b handed\npart a kept'),
        ('part b once\npart a once', 'part b once\npart a handed'), ('part b handed\npart a kept', 'part b handed\npart a fresh'),
    )

    def pairs(self):
        for one, other in self.PAIRS:
            yield Plan(one), Plan(other)
            yield Plan(other), Plan(one)

    def shows(self, plan, other, value, wanted):
        self.assertIs(shows_alike_all(plan, other, value), wanted, (plan.text, other.text, value))

    def test_greater_closed_tables(self):
        greater = 0
        for plan, other in self.pairs():
            good, bad = both_greatest(plan, other)
            word, found = both_search(plan, other)
            self.shows(plan, other, ('alike', tuple(sorted(good))), word == 'alike')
            greater += word == 'alike' and len(good) > len(found)
            for row in sorted(bad)[::5]:
                self.shows(plan, other, ('alike', tuple(sorted({*good, row}))), False)
        self.assertGreater(greater, 1)

    def test_wrong_in_one_thing(self):
        words = set()
        for plan, other in self.pairs():
            told = alike_all(plan, other)
            words.add(told[0])
            if told[0] == 'alike':
                for table in table_changes(told[1]):
                    self.shows(plan, other, ('alike', table), False)
            for value in (('always', *told[1:]), ('breaks', *told[1:]), list(told), (*told, ()), told[1:], told[:1]):
                self.shows(plan, other, value, False)
            self.shows(plan, other, ('apart' if told[0] == 'alike' else 'alike', *told[1:]), False)
            for value in no_results(['alike', 'apart']):
                self.shows(plan, other, value, False)
        self.assertEqual(words, {'alike', 'apart'})

    def test_forms_that_cannot_be(self):
        plan, other = Plan('part b once\npart a kept'), Plan('part b handed\npart a kept')
        table = alike_all(plan, other)[1]
        for row in (
            ((), (0,), 0), (((0, 0, -1),), (0,), 0), (((0, -1, 0),), (0,), 0), (((1, 0, 0),), (0,), 0), (((1, -1, 0),), (0,), 0),
            (((0, 0, 0), (0, 0, 0)), (0,), 0), (((1, -1, -1), (0, 0, 0)), (0,), 0), (((0, 0, 0),), (0,), 2), (((0, 2, 0),), (1,), 2, -1),
            (((0, 0, 0, -1),), (0,), 0), (((0, 0, -2),), (0,), 0), (((0, 0, 1),), (0,), 0), (((2, 0, 0),), (0,), 0), (((0, 0, 0),), (), 0),
            (((0, 0, 0),), (0,), 10 ** 30), (((-1, 0, 0),), (0,), 0),
        ):
            self.shows(plan, other, ('alike', tuple(sorted([*table, row]))), False)

    def test_all_short_stories(self):
        shown = set()
        for plan, other in self.pairs():
            many = len(kept_in_one(plan, other))
            for firsts in ((0,) * many, (-2,) * many):
                for story, works in both_stories(plan, other, firsts, 5):
                    bad = [are_apart(both) for both in works]
                    wanted = bad[-1] and not any(bad[:-1])
                    shown.add(wanted)
                    self.shows(plan, other, ('apart', firsts, story), wanted)
                    if wanted:
                        self.shows(plan, other, ('apart', firsts, [*story]), False)
                        self.shows(plan, other, ('apart', firsts, (*story, READ)), False)
                        self.shows(plan, other, ('apart', firsts, (*story, ('install',))), False)
        self.assertEqual(shown, {False, True})

    def test_stories_wrong_in_one_thing(self):
        plan, other = Plan('part b once\npart a kept'), Plan('part b once\npart a fresh')
        told = ('apart', (0,), (('begin', 'b'), ('install',), READ, ('ask', 'a'), READ))
        self.shows(plan, other, told, True)
        right = 0
        for value in leaf_changes(told):
            if repr(value) in [repr(('apart', (-1,), told[2])), repr(('apart', (-3,), told[2]))]:
                right += 1
                self.shows(plan, other, value, True)
            else:
                self.shows(plan, other, value, False)
        self.assertEqual(right, 2)


if __name__ == '__main__':
    unittest.main()
