"""keeps_all and shows_keeps_all, beside a plain search over stories."""

import itertools
import random
import unittest

from plain_stories import (
    ALL_ROWS, MANNERS, all_forms, begun, closure_of, firsts_of, greatest_table, is_broken, all_stories, plan_text, plain_search,
    some_rows, standing_of, told_by,
)
from samples import raises, strange_values
from wrong_things import leaf_changes, no_results, table_changes

from settledreads.errors import BadManner, NoPart
from settledreads.plans import Plan
from settledreads.stories import keeps_all, shows_keeps_all

READ = ('read',)
INSTALL = ('install',)
BACK = ('back',)


class KeepsAllTest(unittest.TestCase):
    def check(self, plan, part, manner):
        told = keeps_all(plan, part, manner)
        word, found = plain_search(plan, part, manner)
        self.assertEqual((told.__class__, told[0]), (tuple, word))
        if word == 'always':
            self.assertEqual(told, ('always', tuple(sorted(found))))
        else:
            self.check_story(plan, part, manner, told, found)
        self.assertIs(shows_keeps_all(plan, part, manner, told), True)
        return told

    def check_story(self, plan, part, manner, told, many):
        _, firsts, story = told
        self.assertEqual((firsts.__class__, story.__class__, len(story)), (tuple, tuple, many))
        self.assertEqual((story[0], story[-1]), (('begin', part), READ))
        self.assertIn(firsts, list(firsts_of(plan)))
        works = told_by(plan, firsts, story)
        self.assertEqual([is_broken(manner, work) for work in works], [False] * (many - 1) + [True])

    def test_one_and_two_parts(self):
        words = {}
        for rows in [*[(row,) for row in ALL_ROWS], *itertools.product(ALL_ROWS, repeat=2)]:
            plan = Plan(plan_text(rows))
            for part, manner in itertools.product(plan.parts, MANNERS):
                words.setdefault(manner, set()).add(self.check(plan, part, manner)[0])
        self.assertEqual(words, {manner: {'always', 'breaks'} for manner in MANNERS})

    def test_three_and_four_parts(self):
        source = random.Random(7)
        more = [(('kept', False),) * 4, (('handed', True), ('kept', False), ('once', True), ('kept', True))]
        for rows in some_rows(source, 3, 40) + some_rows(source, 4, 6) + more:
            plan = Plan(plan_text(rows))
            for part, manner in itertools.product(plan.parts, MANNERS):
                self.check(plan, part, manner)

    def test_each_way_by_itself(self):
        first = ((0, 0, -1),)
        self.assertEqual(keeps_all(Plan('part a once'), 'a', 'one'), (
            'always', ((first, (), 0, -1), (first, (), 0, 0), (first, (), 1, -1), (first, (), 1, 0)),
        ))
        fresh = ((0, -1, -1),)
        told = keeps_all(Plan('part a fresh'), 'a', 'forward')
        self.assertEqual(told, ('always', ((fresh, (), 0, 0),)))
        self.assertEqual(keeps_all(Plan('part a kept'), 'a', 'each'), ('always', (
            (((0, -1, -1),), (0,), 0, -1), (((0, -1, -1),), (0,), 1, -1), (((0, -1, 0),), (0,), 0, -1), (((0, -1, 0),), (0,), 1, -1),
        )))
        for manner in MANNERS:
            told = keeps_all(Plan('part a fresh'), 'a', manner)
            self.assertEqual(told[0], 'always' if manner == 'forward' else 'breaks')
            self.assertEqual(keeps_all(Plan('part a handed'), 'a', manner)[0], 'always')
            self.assertEqual(keeps_all(Plan('part a kept'), 'a', manner)[0], 'breaks' if manner == 'begun' else 'always')

    def test_marks_of_forward(self):
        table = keeps_all(Plan('part a fresh\npart b fresh'), 'b', 'forward')[1]
        self.assertEqual(table, ((((1, -1, -1),), (), 0, 0),))
        table = keeps_all(Plan('part a once\npart b once'), 'b', 'forward')[1]
        self.assertEqual({row[1:] for row in table}, {((), 0, 0), ((), 1, 0)})
        told = keeps_all(Plan('part a fresh\npart b kept'), 'a', 'forward')
        self.assertEqual((told[0], len(told[2])), ('breaks', 4))

    def test_errors(self):
        plan = Plan('part a once\npart lawful kept')
        for value in strange_values() + ['A', 'b', 'a ', ('a',)]:
            for manner in ('one', 'lawful', None):
                raises(self, NoPart, value, keeps_all, plan, value, manner)
                raises(self, NoPart, value, shows_keeps_all, plan, value, manner, ('always', ()))
        for value in strange_values() + ['lawful', 'One', 'present', 'alike', ('one',), ['one']]:
            for part in plan.parts:
                raises(self, BadManner, value, keeps_all, plan, part, value)
                raises(self, BadManner, value, shows_keeps_all, plan, part, value, None)

    def test_arguments_by_name(self):
        plan = Plan('part a once')
        told = keeps_all(manner='one', part='a', plan=plan)
        self.assertEqual(told, keeps_all(plan, 'a', 'one'))
        self.assertIs(shows_keeps_all(value=told, manner='one', part='a', plan=plan), True)


class ShowsTableTest(unittest.TestCase):
    PLANS = (
        'part b kept\npart a handed takes', 'part b once\npart a kept', 'part b handed\npart a once takes', 'part b fresh\npart a handed',
        'part b handed\npart a handed', 'part b once\npart a once',
    )

    def cases(self):
        for text in self.PLANS:
            plan = Plan(text)
            for part, manner in itertools.product(plan.parts, MANNERS):
                yield plan, part, manner

    def shows(self, plan, part, manner, value, wanted):
        self.assertIs(shows_keeps_all(plan, part, manner, value), wanted, (plan.text, part, manner, value))

    def test_greater_closed_tables(self):
        greater = 0
        for plan, part, manner in self.cases():
            good, bad = greatest_table(plan, part, manner)
            word, found = plain_search(plan, part, manner)
            table = tuple(sorted(good))
            self.shows(plan, part, manner, ('always', table), word == 'always')
            if word == 'always':
                greater += len(good) > len(found)
                for other in sorted(good - found)[::7]:
                    more = found | closure_of(plan, manner, [other])
                    self.shows(plan, part, manner, ('always', tuple(sorted(more))), True)
                    self.shows(plan, part, manner, ('always', tuple(sorted({*found, other}))), more == {*found, other})
            for other in sorted(bad)[::11]:
                self.shows(plan, part, manner, ('always', tuple(sorted({*good, other}))), False)
        self.assertGreater(greater, 2)

    def test_all_forms_and_no_others(self):
        # A table of one member has every form but is seldom closed: so forms are asked beside the greatest table.
        plan = Plan('part b once takes\npart a kept')
        for manner in ('each', 'one', 'begun', 'forward'):
            good, _ = greatest_table(plan, 'a', manner)
            forms = set(all_forms(plan, 'a', manner))
            for row in sorted(good)[:3]:
                for other in leaf_changes(row):
                    if isinstance(other, list) or repr(other) not in [repr(form) for form in forms]:
                        rows = [told for told in sorted(good) if told != other]
                        for at in (0, len(rows)):
                            self.shows(plan, 'a', manner, ('always', (*rows[:at], other, *rows[at:])), False)

    def test_wrong_in_one_thing(self):
        for plan, part, manner in self.cases():
            told = keeps_all(plan, part, manner)
            if told[0] == 'always':
                for table in table_changes(told[1]):
                    self.shows(plan, part, manner, ('always', table), False)

    def test_owns_and_marks_that_cannot_be(self):
        """Tables that would be closed, if owns and marks could be any."""
        for text in ('part a once', 'part a kept', 'part b handed\npart a once'):
            plan = Plan(text)
            for part, manner in itertools.product(plan.parts, MANNERS):
                good, _ = greatest_table(plan, part, manner)
                marks = {(row[0], row[1], row[2], mark) for row in good for mark in range(-2, row[2] + 1)}
                owns = {
                    (tuple([(*opening[:2], own) for opening in row[0]]), *row[1:]) for row in good for own in range(-2, row[2] + 1)
                }
                for rows, is_right in ((good, keeps_all(plan, part, manner)[0] == 'always'), (good | marks, False), (good | owns, False)):
                    if rows == good or not rows <= set(all_forms(plan, part, manner)):
                        self.shows(plan, part, manner, ('always', tuple(sorted(rows))), is_right)

    def test_openings_that_cannot_be(self):
        plan = Plan('part c once\npart b handed\npart a kept')
        table = keeps_all(plan, 'c', 'each')[1] if keeps_all(plan, 'c', 'each')[0] == 'always' else ()
        self.assertTrue(table)
        for other in (
            ((), (0,), 0, -1), (((1, 0, -1),), (0,), 0, -1), (((0, 0, -1), (0, 0, -1)), (0,), 0, -1),
            (((0, 0, -1), (2, -1, -1), (1, 0, -1)), (0,), 0, -1), (((0, -1, -1),), (0,), 0, -1), (((0, 0, -1), (2, 0, -1)), (0,), 0, -1),
            (((0, 0, -1), (3, 0, -1)), (0,), 0, -1), (((0, 0, -1), (-1, -1, -1)), (0,), 0, -1), (((0, 0, -1),), (0,), 2, -1),
            (((0, 1, -1),), (1,), 1, -1), (((0, 0, 1),), (0,), 0, -1), (((0, 0, -3),), (0,), 0, -1), (((0, 0, -1),), (0,), 0, 0),
            (((0, 0, -1),), (0,), 0, -2), (((0, 0, -1),), (), 0, -1), (((0, 0, -1),), (0, 0), 0, -1), (((0, 0, -1),), (1,), 0, -1),
            (((0, 2, -1),), (0,), 2, -1), (((0, 0, -1),), (0,), 10 ** 30, -1), (((0, 0, -1),), (0,), -1, -1),
        ):
            self.shows(plan, 'c', 'each', ('always', tuple(sorted([*table, other]))), False)

    def test_another_word_or_kind(self):
        for plan, part, manner in self.cases():
            told = keeps_all(plan, part, manner)
            other = 'breaks' if told[0] == 'always' else 'always'
            for value in ((other, *told[1:]), (told[0].upper(), *told[1:]), list(told), told[1:], (*told, ()), (told,)):
                self.shows(plan, part, manner, value, False)
            for value in no_results(['always', 'breaks']):
                self.shows(plan, part, manner, value, False)
            for value in (keeps_all(plan, part, one) for one in MANNERS):
                if value[0] != told[0]:
                    self.shows(plan, part, manner, value, False)

    def test_the_table_of_another_part(self):
        plan = Plan('part b once\npart a once')
        self.shows(plan, 'a', 'one', keeps_all(plan, 'b', 'each'), False)
        both = tuple(sorted([*keeps_all(plan, 'a', 'each')[1], *keeps_all(plan, 'b', 'each')[1]]))
        self.shows(plan, 'a', 'each', ('always', both), False)
        self.shows(plan, 'b', 'each', ('always', both), False)


class ShowsStoryTest(unittest.TestCase):
    def shows(self, plan, part, manner, firsts, story, wanted):
        value = ('breaks', firsts, story)
        self.assertIs(shows_keeps_all(plan, part, manner, value), wanted, (plan.text, part, manner, value))

    def test_all_short_stories(self):
        """Of all stories that come, and of each manner: shown just where the last event breaks it, and none ahead."""
        shown = set()
        for text in ('part b once takes\npart a kept', 'part b kept\npart a fresh', 'part b handed takes\npart a handed'):
            plan = Plan(text)
            for firsts in list(firsts_of(plan))[-2:]:
                for story, works in all_stories(plan, firsts, 6):
                    for manner in MANNERS:
                        bad = [is_broken(manner, work) for work in works]
                        wanted = bad[-1] and not any(bad[:-1])
                        shown.add((wanted, manner))
                        self.shows(plan, story[0][1], manner, firsts, story, wanted)
                        if wanted:
                            for part in plan.parts:
                                self.shows(plan, part, manner, firsts, story, part == story[0][1])
        self.assertEqual(len(shown), 8)

    def test_longer_stories(self):
        plan = Plan('part a fresh')
        story = (('begin', 'a'), INSTALL, INSTALL, READ, READ, INSTALL, READ)
        self.shows(plan, 'a', 'one', (), story, True)
        self.shows(plan, 'a', 'each', (), story, True)
        self.shows(plan, 'a', 'begun', (), story, False)
        self.shows(plan, 'a', 'begun', (), story[:4], True)
        self.shows(plan, 'a', 'forward', (), story, False)
        self.shows(plan, 'a', 'one', (), (*story, READ), False)
        self.shows(plan, 'a', 'one', (), (*story, BACK), False)
        self.shows(plan, 'a', 'one', (), (*story, INSTALL), False)
        self.shows(plan, 'a', 'one', (), story[:-1], False)
        self.shows(plan, 'a', 'one', (), (), False)
        self.shows(plan, 'a', 'one', (), (*story[:-1], BACK, READ), False)

    def test_each_opening_by_itself(self):
        plan = Plan('part a fresh\npart b fresh\npart c handed')
        begin, ask = ('begin', 'a'), ('ask', 'b')
        twice = (begin, ask, READ, BACK, INSTALL, ask, READ)
        self.shows(plan, 'a', 'each', (), twice, False)
        self.shows(plan, 'a', 'one', (), twice, True)
        self.shows(plan, 'a', 'each', (), (*twice, INSTALL, READ), True)
        self.shows(plan, 'a', 'each', (), (*twice, INSTALL, ('ask', 'c'), READ), False)
        self.shows(plan, 'a', 'each', (), (*twice, INSTALL, BACK, READ), False)
        self.shows(plan, 'a', 'each', (), (*twice, BACK, READ, INSTALL, ask, READ, BACK, READ), True)

    def test_firsts(self):
        plan = Plan('part a kept\npart b kept')
        story = (('begin', 'a'), READ)
        for number in range(-4, 0):
            self.shows(plan, 'a', 'begun', (number, 0), story, True)
            self.shows(plan, 'a', 'begun', (0, number), story, False)
        for firsts in ((), (-1,), (-1, 0, 0), (-5, 0), (1, 0), (-1, False), [-1, 0], (-1, '0'), None, -1, ((-1, 0),), (-1, -5)):
            self.shows(plan, 'a', 'begun', firsts, story, False)

    def test_wrong_in_one_thing(self):
        plan = Plan('part b once\npart a kept')
        told = keeps_all(plan, 'b', 'one')
        self.assertEqual(told[0], 'breaks')
        for value in leaf_changes(told):
            wanted = False
            if isinstance(value, tuple) and len(value) == 3 and value[0] == 'breaks':
                wanted = self.is_story(plan, 'b', 'one', value[1], value[2])
            self.assertIs(shows_keeps_all(plan, 'b', 'one', value), wanted, value)

    def is_story(self, plan, part, manner, firsts, story):
        """What is right of a story, told by what can come."""
        if repr(firsts) not in [repr(row) for row in firsts_of(plan)] or not isinstance(story, tuple):
            return False
        if story[:1] != (('begin', part),):
            return False
        works = told_by(plan, firsts, story)
        return works is not None and [is_broken(manner, work) for work in works] == [False] * (len(story) - 1) + [True]

    def test_a_first_standing(self):
        plan = Plan('part a handed')
        work = begun(plan, 0, ())
        self.assertIn(standing_of('one', work), keeps_all(plan, 'a', 'one')[1])


if __name__ == '__main__':
    unittest.main()
