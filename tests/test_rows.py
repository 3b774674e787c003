"""Points 0.2 (a), 0.3, 0.4 and 1.3: a record with its number, and its row."""

import unittest

from loghall.errors import BadLevel, BadRow, LogError
from loghall.levels import level_word
from loghall.rows import read_row, read_written, row_of

MOST = 999999999
SIGNS = [chr(k) for k in range(32, 127) if k != 37]

PAIRS = [
    ((1, (0, 0, "", "")), "1 0 all * "),
    ((MOST, (MOST, 99, "a", "x")), "999999999 999999999 fatal+49 a x"),
    ((7, (86400, 30, "web.db", "slow query")), "7 86400 warn web.db slow query"),
    ((10, (100, 37, "web", "a  b")), "10 100 warn+7 web a  b"),
    ((2, (5, 1, "", "to the top")), "2 5 all+1 * to the top"),
    ((3, (5, 20, "a.b.c.d.e.f", " ")), "3 5 info a.b.c.d.e.f  "),
    ((3, (5, 10, "_", "  ahead and behind  ")), "3 5 debug _   ahead and behind  "),
    ((4, (60, 50, "12345678", "w" * 80)), "4 60 fatal 12345678 " + "w" * 80),
    ((4, (60, 45, "0", " " * 80)), "4 60 error+5 0 " + " " * 80),
    ((5, (0, 40, "all", "5 0 error all 5 0")), "5 0 error all 5 0 error all 5 0"),
    ((6, (1, 30, "x", "*")), "6 1 warn x *"),
]


def row_parts(number="5", moment="60", level="warn", name="web.db", words="some words"):
    return " ".join([number, moment, level, name, words])


class RowOf(unittest.TestCase):
    def test_rows(self):
        for (number, record), row in PAIRS:
            with self.subTest(row=row):
                self.assertEqual(row_of(number, record), row)

    def test_all_levels(self):
        for level in range(100):
            self.assertEqual(row_of(1, (2, level, "a", "b")), "1 2 " + level_word(level) + " a b")

    def test_asked_again(self):
        for (number, record), row in PAIRS:
            self.assertEqual(row_of(number, record), row_of(number, record))


class ReadRow(unittest.TestCase):
    def assert_bad(self, texts):
        for text in texts:
            with self.subTest(text=text):
                with self.assertRaises(BadRow):
                    read_row(text)

    def test_rows(self):
        for pair, row in PAIRS:
            with self.subTest(row=row):
                self.assertEqual(read_row(row), pair)
                self.assertEqual(read_row(row), pair)

    def test_kinds(self):
        for pair, row in PAIRS:
            told = read_row(row)
            self.assertIs(type(told), tuple)
            number, record = told
            self.assertIs(type(number), int)
            self.assertIs(type(record), tuple)
            self.assertEqual([type(part) for part in record], [int, int, str, str])

    def test_all_levels(self):
        for level in range(100):
            record = (2, level, "a", "b")
            self.assertEqual(read_row(row_of(1, record)), (1, record))

    def test_words_of_each_length(self):
        for many in range(81):
            record = (2, 30, "a", ("ab " * 30)[:many])
            self.assertEqual(read_row(row_of(1, record)), (1, record))

    def test_each_sign_in_words(self):
        for sign in SIGNS:
            for words in (sign, sign + "a", "a" + sign, sign * 80):
                record = (2, 30, "", words)
                self.assertEqual(read_row(row_of(1, record)), (1, record))

    def test_the_number(self):
        for text in ("1", "9", "10", "999999999"):
            self.assertEqual(read_row(row_parts(number=text))[0], int(text))
        self.assert_bad(row_parts(number=text) for text in ("0", "00", "-1", "+1", "01", "007", "", "x", "1x", "*"))
        self.assert_bad(row_parts(number=text) for text in ("1000000000", "0999999999", "9" * 200, "1.0", "1_0"))

    def test_the_moment(self):
        for text in ("0", "1", "10", "86400", "999999999"):
            self.assertEqual(read_row(row_parts(moment=text))[1][0], int(text))
        self.assert_bad(row_parts(moment=text) for text in ("00", "01", "086400", "-1", "+1", "", "x", "1x", "*"))
        self.assert_bad(row_parts(moment=text) for text in ("1000000000", "0999999999", "9" * 200, "1.0", "1_0"))

    def test_figures_of_other_kinds(self):
        for text in ("\u0661", "\u00b2", "\uff15"):
            self.assert_bad([row_parts(number=text), row_parts(moment=text)])

    def test_the_level(self):
        self.assert_bad(row_parts(level=text) for text in ("", "none", "WARN", "30", "warn+0", "warn+10", "warn+"))
        self.assert_bad(row_parts(level=text) for text in ("fatal+50", "all+05", "warn-1", "+5", "*", "warn+5+5"))

    def test_the_level_is_refused_as_a_row(self):
        with self.assertRaises(LogError) as caught:
            read_row(row_parts(level="none"))
        self.assertNotIsInstance(caught.exception, BadLevel)
        self.assertIs(type(caught.exception), BadRow)

    def test_the_name(self):
        self.assertEqual(read_row(row_parts(name="*"))[1][2], "")
        self.assertEqual(read_row(row_parts(name="a.b.c.d.e.f"))[1][2], "a.b.c.d.e.f")
        self.assert_bad(row_parts(name=text) for text in ("", "Web", "a.", ".a", "a..b", "a.*", "**", "*.a", "a-b"))
        self.assert_bad(row_parts(name=text) for text in ("abcdefghi", "a.b.c.d.e.f.g", "'a'", "a\n"))

    def test_too_many_words(self):
        self.assertEqual(read_row(row_parts(words="w" * 80))[1][3], "w" * 80)
        self.assert_bad(row_parts(words="w" * many) for many in (81, 82, 100, 200))
        self.assert_bad([row_parts(words=" " * 81), row_parts(words=" " + "w" * 80), row_parts(words="w" * 80 + " ")])

    def test_signs_that_are_none(self):
        for sign in ("\n", "\t", "\x00", "\x1f", chr(37), "\x7f", "\u00e4"):
            self.assert_bad([row_parts(words=sign), row_parts(words="a" + sign), row_parts(words=sign + "a")])

    def test_a_blank_too_few(self):
        self.assert_bad(["5 60 warn web.dbwords", "560 warn web words", "5 60warn web words", "5 60 warnweb words"])
        self.assert_bad(["5 60 warn web", "5 60 warn *"])

    def test_a_blank_too_many(self):
        self.assert_bad([" 5 60 warn web words", "5  60 warn web words", "5 60  warn web words"])
        self.assert_bad(["5 60 warn  web words"])

    def test_a_blank_behind_the_name_begins_the_words(self):
        self.assertEqual(read_row("5 60 warn web  words"), (5, (60, 30, "web", " words")))

    def test_other_signs_for_the_blank(self):
        for at, sign in enumerate("5 60 warn web words"):
            if sign == " ":
                text = "5 60 warn web words"
                self.assert_bad(text[:at] + other + text[at + 1:] for other in ("\t", "\n", "_", ",", "\u00a0"))

    def test_empty(self):
        self.assert_bad(["", " ", "  ", "    ", "     "])

    def test_cut_ahead_of_the_words(self):
        for (number, record), row in PAIRS:
            ahead = len(row) - len(record[3])
            self.assert_bad(row[:at] for at in range(ahead))

    def test_cut_in_the_words(self):
        for (number, record), row in PAIRS:
            moment, level, name, words = record
            ahead = len(row) - len(words)
            for many in range(len(words) + 1):
                self.assertEqual(read_row(row[:ahead + many]), (number, (moment, level, name, words[:many])))

    def test_each_text_that_is_read_is_the_row(self):
        for row in ("1 0 all * ", "10 20 warn+7 a.b x y", "12 0 info x "):
            for at in range(len(row) + 1):
                for sign in ["", "\n"] + SIGNS:
                    self.assert_its_row_or_bad(row[:at] + sign + row[at:])
                    self.assert_its_row_or_bad(row[:at] + sign + row[at + 1:])

    def assert_its_row_or_bad(self, text):
        try:
            number, record = read_row(text)
        except BadRow:
            return
        self.assertEqual(row_of(number, record), text)


class ReadWritten(unittest.TestCase):
    def test_as_read_row(self):
        for pair, row in PAIRS:
            self.assertEqual(read_written(row), pair)
        for level in range(100):
            self.assertEqual(read_written(row_of(1, (2, level, "a", "b"))), (1, (2, level, "a", "b")))

    def test_beyond_the_limits(self):
        for pair in ((10 ** 9, (10 ** 9, 30, "a", "w" * 90)), (0, (-1, 100, "a.b.c.d.e.f.g", "x")), (1, (0, -1, "a" * 9, ""))):
            self.assertEqual(read_written(row_of(pair[0], pair[1])), pair)


if __name__ == "__main__":
    unittest.main()
