"""The interface of loghall/errors.py."""

import unittest

from loghall import errors

PLAIN = ["BadLevel", "BadRow", "NoWriter", "Falling", "NoFile", "Stopped"]
PLACED = ["BadGate", "BadForm"]


def class_of(name):
    return getattr(errors, name)


class Errors(unittest.TestCase):
    def test_log_error_is_a_value_error(self):
        self.assertTrue(issubclass(errors.LogError, ValueError))

    def test_each_is_under_log_error(self):
        for name in PLAIN + PLACED:
            with self.subTest(name=name):
                self.assertTrue(issubclass(class_of(name), errors.LogError))
                self.assertTrue(issubclass(class_of(name), ValueError))

    def test_none_is_under_another(self):
        for name in PLAIN + PLACED:
            self.assertFalse(issubclass(errors.LogError, class_of(name)))
            for other in PLAIN + PLACED:
                if name != other:
                    with self.subTest(name=name, other=other):
                        self.assertFalse(issubclass(class_of(name), class_of(other)))

    def test_at_is_set_when_made(self):
        for name in PLACED:
            for at in (0, 7, 300):
                with self.subTest(name=name, at=at):
                    self.assertEqual(class_of(name)(at).at, at)

    def test_at_is_each_ones_own(self):
        for name in PLACED:
            first = class_of(name)(1)
            second = class_of(name)(2)
            self.assertEqual((first.at, second.at), (1, 2))

    def test_raised_and_caught(self):
        for name in PLAIN:
            with self.subTest(name=name):
                with self.assertRaises(errors.LogError):
                    raise class_of(name)("why")
        for name in PLACED:
            with self.subTest(name=name):
                with self.assertRaises(errors.LogError) as caught:
                    raise class_of(name)(3)
                self.assertEqual(caught.exception.at, 3)


if __name__ == "__main__":
    unittest.main()
