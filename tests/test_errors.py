"""Point 13: all errors stand under HostError, a ValueError."""

import unittest

from landstack import errors

NAMES = ('ContentError', 'GraphError', 'PatchError', 'RightError', 'ReviewError', 'CheckError', 'QueryError',
         'BuildError', 'VersionError', 'IssueError', 'ProofError', 'HookError')


class ErrorsTest(unittest.TestCase):
    def test_the_base_is_a_value_error(self):
        self.assertTrue(issubclass(errors.HostError, ValueError))

    def test_each_error_stands_under_the_base(self):
        for name in NAMES:
            with self.subTest(name):
                self.assertTrue(issubclass(getattr(errors, name), errors.HostError))

    def test_no_error_stands_under_another_one_of_them(self):
        for name in NAMES:
            for other in NAMES:
                if name != other:
                    self.assertFalse(issubclass(getattr(errors, name), getattr(errors, other)))

    def test_each_error_is_caught_by_its_name_with_its_words(self):
        for name in NAMES:
            with self.subTest(name):
                with self.assertRaises(errors.HostError) as caught:
                    raise getattr(errors, name)('why')
                self.assertEqual(type(caught.exception).__name__, name)
                self.assertEqual(str(caught.exception), 'why')
