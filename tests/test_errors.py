"""The refusals' classes, and how they stand to each other."""

import unittest

from halfrun import errors

NAMES = ("NoNumber", "NoList", "NoFirst", "NoDown", "ByNought", "TooGreat", "TooLong", "NotKept", "NoText")


class ErrorsTest(unittest.TestCase):
    def test_half_error_stands_under_value_error(self):
        self.assertTrue(issubclass(errors.HalfError, ValueError))
        self.assertEqual(errors.HalfError.__bases__, (ValueError,))

    def test_each_stands_under_half_error_and_none_under_another(self):
        for name in NAMES:
            one = getattr(errors, name)
            self.assertTrue(issubclass(one, errors.HalfError), name)
            self.assertFalse(issubclass(errors.HalfError, one), name)
            for other in NAMES:
                self.assertEqual(issubclass(one, getattr(errors, other)), name == other, (name, other))

    def test_each_has_its_name_and_can_be_raised(self):
        for name in ("HalfError", *NAMES):
            error = getattr(errors, name)
            self.assertEqual(error.__name__, name)
            self.assertEqual(error.__module__, "halfrun.errors")
            with self.assertRaises(errors.HalfError):
                raise error("why")

    def test_six_have_words(self):
        self.assertEqual(sorted(errors.WORDS), sorted(NAMES[:6]))

    def test_each_word_is_raised_as_its_class(self):
        for word in errors.WORDS:
            with self.assertRaises(errors.HalfError) as caught:
                errors.refuse(word)
            self.assertIs(type(caught.exception), getattr(errors, word))


if __name__ == "__main__":
    unittest.main()
