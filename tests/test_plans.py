import itertools
import unittest

from samples import no_strings, raises, strange_values

from settledreads.errors import BadText
from settledreads.plans import Plan

WAYS = ('fresh', 'once', 'handed', 'kept')


class ReadTest(unittest.TestCase):
    def check(self, rows):
        text = '\n'.join([f'part {name} {way}' + (' takes' if takes else '') for name, way, takes in rows])
        plan = Plan(text)
        self.assertEqual(plan.text, text)
        self.assertEqual(plan.parts, tuple([name for name, _, _ in rows]))
        self.assertEqual(plan.ways, tuple([way for _, way, _ in rows]))
        self.assertEqual(plan.takes, tuple([takes for _, _, takes in rows]))
        self.assertEqual({told.__class__ for told in plan.takes}, {bool})
        self.assertEqual([told.__class__ for told in (plan.parts, plan.ways, plan.takes)], [tuple] * 3)

    def test_one_and_two_parts_of_all_ways(self):
        lines = list(itertools.product(WAYS, (False, True)))
        for first in lines:
            self.check([('shop', *first)])
            for second in lines:
                self.check([('shop', *first), ('a', *second)])

    def test_three_and_four_parts(self):
        for ways in itertools.product(WAYS, repeat=3):
            self.check([('c', ways[0], False), ('b', ways[1], True), ('a', ways[2], False)])
        self.check([('d', 'kept', True), ('c', 'kept', False), ('b', 'once', True), ('abcdefgh', 'handed', False)])

    def test_names_like_words(self):
        self.check([('part', 'fresh', True), ('takes', 'kept', False), ('once', 'once', True), ('rule', 'handed', False)])
        self.check([('fresh', 'fresh', False), ('or', 'handed', True), ('key', 'fresh', False)])

    def test_argument_by_name(self):
        self.assertEqual(Plan(text='part a once').parts, ('a',))

    def test_properties_cannot_be_set(self):
        for name in ('text', 'parts', 'ways', 'takes'):
            with self.assertRaises(AttributeError):
                setattr(Plan('part a once'), name, ())


class EqualTest(unittest.TestCase):
    def test_by_text(self):
        text = 'part a once\npart b kept takes'
        self.assertIs(Plan(text) == Plan(text), True)
        self.assertIs(Plan(text) != Plan(text), False)
        for other in ('part a once', 'part b kept takes\npart a once', 'part a once\npart b kept', 'part a kept\npart b kept takes'):
            self.assertIs(Plan(text) == Plan(other), False)
            self.assertIs(Plan(text) != Plan(other), True)

    def test_nothing_else(self):
        plan = Plan('part a once')
        for value in strange_values() + [plan.text, plan.parts, (plan.parts, plan.ways, plan.takes)]:
            self.assertIs(plan == value, False)
            self.assertIs(value == plan, False)
            self.assertIs(plan != value, True)


class BadTextTest(unittest.TestCase):
    def check(self, number, text):
        raises(self, BadText, number, Plan, text)

    def test_no_string(self):
        for value in no_strings() + [b'part a once', ['part a once']]:
            self.check(-1, value)

    def test_no_line(self):
        self.check(0, '')
        self.check(0, '\n')
        self.check(0, '\npart a once')

    def test_wrong_lines(self):
        for line in (
            'part', 'part a', 'part once', 'a once', 'part a once once', 'part a takes', 'part takes', 'part a takes once',
            'part a once takes takes', 'part a once take', 'part a once taken', 'part a once Takes', 'Part a once', 'parts a once',
            'part a Once', 'part a onc', 'part a all', 'part abcdefghi once', 'part A once', 'part a1 once', 'part 1 once',
            'part a_b once', 'key a 2', 'part once a', 'once part a', 'part a once ', ' part a once', 'part  a once',
            'part a  once', 'part a once  takes', 'part a once takes ', 'part\ta once', 'part a\tonce', 'part a once\ttakes',
            'part a once\t', '\tpart a once', '  part a once', '', ' ', 'part  once', 'part a ', 'part a once 2',
        ):
            self.check(0, line)
            self.check(0, f'{line}\npart b once')
            self.check(1, f'part b once\n{line}')
            self.check(2, f'part b once\npart c kept takes\n{line}\npart ? once')
            self.check(3, f'part b once\npart c kept takes\npart d fresh\n{line}')

    def test_a_fifth_part(self):
        four = 'part a once\npart b once\npart c once\npart d once'
        self.assertEqual(Plan(four).parts, ('a', 'b', 'c', 'd'))
        self.check(4, f'{four}\npart e once')
        self.check(4, f'{four}\npart e once\npart f once')
        self.check(4, f'{four}\n')

    def test_a_name_twice(self):
        self.check(1, 'part a once\npart a once')
        self.check(2, 'part a once\npart b kept\npart a fresh takes')
        self.check(3, 'part a once\npart b kept\npart c kept\npart b kept')

    def test_a_line_feed_behind_the_last_line(self):
        self.check(1, 'part a once\n')
        self.check(2, 'part a once\npart b once takes\n')


if __name__ == '__main__':
    unittest.main()
