"""Points 5.3 and 0.3: texts that come again, counted, and logs led together."""

import itertools
import random
import unittest

from loghall.errors import BadRow, LogError
from loghall.folds import long, merged, short

PAIRS = [
    ((), ()),
    (("a",), ("=a",)),
    (("",), ("=",)),
    (("", ""), ("=", "+1")),
    (("a", "b"), ("=a", "=b")),
    (("a", "a"), ("=a", "+1")),
    (("a", "a", "a"), ("=a", "+2")),
    (("a", "b", "a"), ("=a", "=b", "=a")),
    (("a", "a", "b", "b", "b", "a"), ("=a", "+1", "=b", "+2", "=a")),
    (("", "a", "", ""), ("=", "=a", "=", "+1")),
    (("=", "=", "=a", "=="), ("==", "+1", "==a", "===")),
    (("+1", "+1", "+", "+2"), ("=+1", "+1", "=+", "=+2")),
    (("a", "+1"), ("=a", "=+1")),
    (("a", "A", "a ", " a"), ("=a", "=A", "=a ", "= a")),
    (("x",) * 11, ("=x", "+10")),
    (("x",) * 999, ("=x", "+998")),
    (("x",) * 1000, ("=x", "+999")),
    (("x",) * 999 + ("y",), ("=x", "+998", "=y")),
    (("y",) + ("x",) * 999, ("=y", "=x", "+998")),
    (("w" * 300,) * 2, ("=" + "w" * 300, "+1")),
]


class Short(unittest.TestCase):
    def test_rows(self):
        for texts, rows in PAIRS:
            with self.subTest(rows=rows):
                self.assertEqual(short(texts), rows)
                self.assertEqual(short(texts), rows)
                self.assertIs(type(short(texts)), tuple)

    def test_a_thousand_texts_unlike_the_one_ahead(self):
        texts = ("a", "b") * 500
        self.assertEqual(short(texts), ("=a", "=b") * 500)

    def test_somewhat_more_texts(self):
        self.assertEqual(short(("a",) * 1001), ("=a", "+1000"))


class Long(unittest.TestCase):
    def assert_bad(self, *tuples):
        for rows in tuples:
            with self.subTest(rows=rows):
                for k in range(2):
                    with self.assertRaises(BadRow) as caught:
                        long(rows)
                    self.assertIsInstance(caught.exception, LogError)

    def test_texts(self):
        for texts, rows in PAIRS:
            with self.subTest(rows=rows):
                self.assertEqual(long(rows), texts)
                self.assertEqual(long(rows), texts)
                self.assertIs(type(long(rows)), tuple)

    def test_neither_sign(self):
        self.assert_bad(("a",), ("=a", "b"), ("=a", "b", "=c"), (" =a",), ("-1",), ("=a", "1"), ("=a", " +1"))

    def test_an_empty_row(self):
        self.assert_bad(("",), ("=a", ""), ("", "=a"), ("=a", "", "=b"))

    def test_a_count_first(self):
        self.assert_bad(("+1",), ("+1", "=a"), ("+999",), ("+",), ("+0",))

    def test_a_count_behind_a_count(self):
        self.assert_bad(("=a", "+1", "+1"), ("=a", "+2", "+3", "=b"), ("=b", "=a", "+1", "+1"))

    def test_counts_that_are_none(self):
        for count in ("+0", "+", "+00", "+01", "+010", "+x", "++1", "+-1", "+1 ", "+ 1", "+1x", "+1.0", "+1_0", "+=1"):
            self.assert_bad(("=a", count), ("=a", count, "=b"))

    def test_figures_of_other_kinds(self):
        self.assert_bad(("=a", "+\u0661"), ("=a", "+\u00b2"), ("=a", "+\uff15"))

    def test_like_texts_side_by_side(self):
        self.assert_bad(("=a", "=a"), ("=", "="), ("=a", "+1", "=a"), ("=b", "=a", "=a"), ("=a", "=a", "+1"))

    def test_too_many(self):
        self.assertEqual(len(long(("=a", "+999"))), 1000)
        self.assert_bad(("=a", "+1000"), ("=a", "+999", "=b"), ("=b", "=a", "+999"), ("=a", "+9" + "9" * 200))
        self.assert_bad(("=a", "+500", "=b", "+499"), ("=a", "=b") * 500 + ("=a",))
        self.assertEqual(len(long(("=a", "+500", "=b", "+498"))), 1000)
        self.assertEqual(len(long(("=a", "=b") * 500)), 1000)

    def test_a_thousand_counts(self):
        self.assert_bad(("=a", "+999") * 1000, ("=a",) + ("+999",) * 1000)

    def test_both_ways_for_all_short_tuples_of_texts(self):
        for many in range(6):
            for texts in itertools.product(("", "a", "=", "+1"), repeat=many):
                self.assertEqual(long(short(texts)), texts)

    def test_both_ways_for_all_short_tuples_of_rows(self):
        for many in range(6):
            for rows in itertools.product(("", "=", "=a", "=+1", "+1", "+2", "+0"), repeat=many):
                try:
                    texts = long(rows)
                except BadRow:
                    self.assertFalse(self.are_rows(rows), rows)
                    continue
                self.assertTrue(self.are_rows(rows), rows)
                self.assertEqual(short(texts), rows)

    def are_rows(self, rows):
        """Whether texts have these rows, said otherwise: by pairs of rows that stand side by side."""
        if any(row in ("", "+0") for row in rows) or rows[:1] in (("+1",), ("+2",)):
            return False
        texts = [row for row in rows if row[0] == "="]
        if any(one == other for one, other in zip(texts, texts[1:])):
            return False
        return not any(one[0] == other[0] == "+" for one, other in zip(rows, rows[1:]))


def record(moment, words="x", level=30, name="a"):
    return (moment, level, name, words)


class Merged(unittest.TestCase):
    def test_no_logs(self):
        self.assertEqual(merged(()), ())
        self.assertIs(type(merged(())), tuple)

    def test_empty_logs(self):
        self.assertEqual(merged(((),)), ())
        self.assertEqual(merged(((), (), ())), ())
        self.assertEqual(merged(((), (record(1),), ())), (record(1),))

    def test_one_log(self):
        log = (record(1, "z"), record(1, "a"), record(1, "m"), record(5), record(9, "b"), record(9, "a"))
        self.assertEqual(merged((log,)), log)
        self.assertEqual(merged((log, ())), log)

    def test_by_moments(self):
        first, second = (record(1), record(5), record(9)), (record(0), record(6), record(7), record(100))
        expected = tuple(record(moment) for moment in (0, 1, 5, 6, 7, 9, 100))
        self.assertEqual(merged((first, second)), expected)
        self.assertEqual(merged((second, first)), expected)
        self.assertIs(type(merged((first, second))), tuple)

    def test_moments_alike_in_several_logs(self):
        logs = ((record(5, "z"),), (record(5, "a"),), (record(5, "m"),))
        self.assertEqual(merged(logs), (record(5, "z"), record(5, "a"), record(5, "m")))
        self.assertEqual(merged(logs[::-1]), (record(5, "m"), record(5, "a"), record(5, "z")))

    def test_one_moment_several_times(self):
        first = (record(5, "c"), record(5, "a"), record(6, "x"))
        second = (record(4, "w"), record(5, "b"), record(5, "a"), record(6, "k"))
        words = [one[3] for one in merged((first, second))]
        self.assertEqual(words, ["w", "c", "a", "b", "a", "x", "k"])

    def test_other_parts_count_for_nothing(self):
        first, second = (record(5, level=99, name="z"),), (record(5, level=0, name=""),)
        self.assertEqual(merged((first, second)), first + second)
        self.assertEqual(merged((second, first)), second + first)

    def test_like_records_stay_as_often(self):
        self.assertEqual(merged(((record(5),) * 2, (record(5),))), (record(5),) * 3)

    def test_many(self):
        source = random.Random(3)
        for k in range(100):
            logs = []
            for at in range(source.randrange(5)):
                moments = sorted(source.randrange(8) for j in range(source.randrange(8)))
                logs.append(tuple(record(moment, f"{at} {j}") for j, moment in enumerate(moments)))
            told = merged(tuple(logs))
            self.assertEqual(told, merged(tuple(logs)))
            places = [(one[0],) + tuple(int(part) for part in one[3].split()) for one in told]
            self.assertEqual(places, sorted(places))
            self.assertEqual(len(told), sum(len(log) for log in logs))


if __name__ == "__main__":
    unittest.main()
