"""Point 0.3: whole numbers in figures, as all texts have them."""

import unittest

from loghall.figures import read_number


class ReadNumber(unittest.TestCase):
    def test_numbers(self):
        for number in (0, 1, 9, 10, 99, 100, 999):
            self.assertEqual(read_number(str(number), 999), number)
            self.assertIs(type(read_number(str(number), 999)), int)

    def test_too_great(self):
        self.assertEqual(read_number("98", 98), 98)
        self.assertIsNone(read_number("99", 98))
        self.assertIsNone(read_number("100", 98))
        self.assertIsNone(read_number("9" * 5000, 98))

    def test_a_zero_ahead(self):
        for text in ("00", "01", "007", "000"):
            self.assertIsNone(read_number(text, 999))

    def test_no_figures(self):
        for text in ("", " ", "+1", "-1", "1 ", " 1", "1_0", "1.", "x", "1x", "\u0661", "\u00b2", "\uff15", "1\n"):
            self.assertIsNone(read_number(text, 999), text)


if __name__ == "__main__":
    unittest.main()
