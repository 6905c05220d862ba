"""The errors: their names, classes and fields."""

import unittest

from peristyle import errors

PLACED = ("BadText", "BadName", "BadKind")
PLAIN = ("BadForm", "BadKey", "NoSuch", "TooMuch")


class ErrorsTest(unittest.TestCase):
    def test_the_base_is_right_below_value_error(self):
        self.assertEqual(errors.PeristyleError.__bases__, (ValueError,))

    def test_all_others_are_right_below_the_base(self):
        for name in PLACED + PLAIN:
            with self.subTest(name):
                self.assertEqual(getattr(errors, name).__bases__, (errors.PeristyleError,))

    def test_all_are_different_and_defined_there(self):
        classes = [getattr(errors, name) for name in PLACED + PLAIN]
        self.assertEqual(len(set(classes)), 7)
        for cls in classes + [errors.PeristyleError]:
            self.assertEqual(cls.__module__, "peristyle.errors")

    def test_placed_errors_have_the_field_at(self):
        for name in PLACED:
            for at in (-1, 0, 17, 3000):
                with self.subTest((name, at)):
                    error = getattr(errors, name)(at)
                    self.assertEqual(error.at, at)
                    self.assertIs(type(error.at), int)

    def test_the_field_is_that_of_the_object(self):
        first, second = errors.BadName(3), errors.BadName(4)
        self.assertEqual((first.at, second.at), (3, 4))

    def test_the_argument_is_called_at(self):
        for name in PLACED:
            self.assertEqual(getattr(errors, name)(at=9).at, 9)

    def test_placed_errors_need_the_argument(self):
        for name in PLACED:
            with self.assertRaises(TypeError):
                getattr(errors, name)()

    def test_plain_errors_take_no_argument(self):
        for name in PLAIN:
            self.assertIsInstance(getattr(errors, name)(), errors.PeristyleError)

    def test_they_are_raised_and_caught(self):
        for name in PLACED:
            with self.assertRaises(getattr(errors, name)) as caught:
                raise getattr(errors, name)(5)
            self.assertEqual(caught.exception.at, 5)
        for name in PLAIN:
            with self.assertRaises(getattr(errors, name)):
                raise getattr(errors, name)()


if __name__ == "__main__":
    unittest.main()
