import unittest

from samples import no_strings, raises, strange_values

from settledreads.errors import BadText
from settledreads.texts import is_int, is_name, lines_of, number_of, words_of


class TextsTest(unittest.TestCase):
    def test_lines(self):
        self.assertEqual(lines_of(''), [''])
        self.assertEqual(lines_of('a\n\nb c\n'), ['a', '', 'b c', ''])
        for value in no_strings():
            raises(self, BadText, -1, lines_of, value)

    def test_words(self):
        self.assertEqual(words_of('a b\tc'), ['a', 'b\tc'])
        self.assertEqual(words_of(' a  b '), ['', 'a', '', 'b', ''])

    def test_names(self):
        for word in ('a', 'z', 'abcdefgh', 'or'):
            self.assertIs(is_name(word), True)
        for word in ('', 'abcdefghi', 'A', 'aB', '0', 'a0', 'a_', 'a b', ' ', 'a\t'):
            self.assertIs(is_name(word), False)

    def test_numbers(self):
        for number in (0, 1, 9, 10, 90, 100, 999999999):
            self.assertEqual(number_of(str(number)), number)
        for word in ('', '00', '01', '1000000000', '-1', '+1', '1.0', 'a', '1a', ' 1', '1_0'):
            self.assertIsNone(number_of(word))

    def test_integers(self):
        for value in strange_values():
            self.assertIs(is_int(value), value.__class__ is int)


if __name__ == '__main__':
    unittest.main()
