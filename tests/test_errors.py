import unittest

from samples import strange_values

from settledreads import errors

NAMES = (
    'BadText BadPairs Parted OtherSheet BadWorth BadEdition Broken BadFirsts BadStory NoPart BadManner Unlike BadWays '
    'BadRun TooMany BadOffers BadParts BadEditions BadKept BadPrices BadDeeds Busy Unkept NoWork Over BadStep Risky '
    'Waits NothingToUndo NothingToRedo BadLine'
).split(' ')


class ErrorsTest(unittest.TestCase):
    def test_base_classes(self):
        self.assertEqual(errors.SettledError.__bases__, (ValueError,))
        self.assertEqual(errors.Missing.__bases__, (KeyError,))
        self.assertEqual(errors.NoKey.__bases__, (errors.Missing,))
        self.assertEqual(len(NAMES), 31)
        for name in NAMES:
            self.assertEqual(getattr(errors, name).__bases__, (errors.SettledError,), name)

    def test_nothing_else_is_there(self):
        told = [name for name in vars(errors) if not name.startswith('_')]
        self.assertEqual(sorted(told), sorted(NAMES + ['SettledError', 'Missing', 'NoKey']))

    def test_defined_in_this_file(self):
        for name in NAMES + ['SettledError', 'Missing', 'NoKey']:
            self.assertEqual((getattr(errors, name).__module__, getattr(errors, name).__name__), ('settledreads.errors', name))

    def test_any_value_is_kept(self):
        for name in NAMES + ['SettledError', 'Missing', 'NoKey']:
            kind = getattr(errors, name)
            for value in strange_values():
                self.assertIs(kind(value).value, value)
                self.assertIs(kind(value=value).value, value)

    def test_one_argument_only(self):
        for name in NAMES + ['SettledError', 'Missing', 'NoKey']:
            with self.assertRaises(TypeError):
                getattr(errors, name)()
            with self.assertRaises(TypeError):
                getattr(errors, name)(1, 2)

    def test_caught_by_what_they_are_below(self):
        with self.assertRaises(ValueError) as caught:
            raise errors.Risky(3)
        self.assertEqual(caught.exception.value, 3)
        with self.assertRaises(KeyError) as caught:
            raise errors.NoKey(['x'])
        self.assertEqual(caught.exception.value, ['x'])
        self.assertFalse(issubclass(errors.NoKey, ValueError))
        self.assertFalse(issubclass(errors.BadText, KeyError))


if __name__ == '__main__':
    unittest.main()
