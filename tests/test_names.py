"""Points 0.3, 0.4 and 1.1: what is a name, and which names are above it."""

import string
import unittest

from loghall.names import above, is_name, is_under, name_word, read_name

ALLOWED = string.ascii_lowercase + string.digits + "_"


class IsName(unittest.TestCase):
    def assert_names(self, things):
        for thing in things:
            with self.subTest(thing=thing):
                self.assertIs(is_name(thing), True)

    def assert_no_names(self, things):
        for thing in things:
            with self.subTest(thing=thing):
                self.assertIs(is_name(thing), False)

    def test_the_top(self):
        self.assert_names([""])

    def test_one_to_six_parts(self):
        for many in range(1, 7):
            self.assert_names([
                ".".join(["a"] * many),
                ".".join(["abcdefgh"] * many),
                ".".join(["web_0", "x", "12345678", "_", "a_b", "zz"][:many]),
            ])

    def test_parts_of_one_to_eight_signs(self):
        self.assert_names("abcdefgh"[:many] for many in range(1, 9))
        self.assert_names("a." + "z" * many + ".b" for many in range(1, 9))

    def test_each_sign(self):
        self.assert_names(sign for sign in ALLOWED)
        self.assert_names("ab" + sign + "cd" for sign in ALLOWED)

    def test_all_other_signs(self):
        others = [chr(k) for k in range(256) if chr(k) not in ALLOWED and chr(k) != "."]
        others += ["\u0430", "\u0661", "\uff41", "\u017f"]
        for sign in others:
            self.assert_no_names([sign, sign + "a", "a" + sign, "a" + sign + "b", "a." + sign])

    def test_too_many_parts(self):
        self.assert_no_names(".".join(["a"] * many) for many in range(7, 13))

    def test_too_long_a_part(self):
        self.assert_no_names(["abcdefghi", "a" * 50, "abcdefghi.a", "a.abcdefghi", "a.abcdefghi.b"])

    def test_an_empty_part(self):
        self.assert_no_names([".", "..", "a.", ".a", "a..b", "a.b.", ".a.b", "a...b", "......"])

    def test_named_wrong_texts(self):
        self.assert_no_names(["A", "Web", "a.B", " ", "a b", " a", "a ", "a-b", "*", "a.*", "a\n", "\n", "a.b\n"])

    def test_things_that_are_no_texts(self):
        self.assert_no_names([0, 1, -5, 12345678, True, False, None])
        self.assert_no_names([[], (), ["a"], ("a",), [""], ("",), ["a", "b"], ("a", "."), [None, 1], ([], ())])

    def test_what_is_handed_in_stays(self):
        thing = ["a", ["b"], ("c",)]
        is_name(thing)
        self.assertEqual(thing, ["a", ["b"], ("c",)])

    def test_asked_again(self):
        for thing in ("a.b", "", "a..b", None, ["a"]):
            self.assertIs(is_name(thing), is_name(thing))


class Above(unittest.TestCase):
    def test_the_top_has_none(self):
        self.assertEqual(above(""), ())

    def test_one_part(self):
        self.assertEqual(above("web"), ("",))

    def test_nearest_first(self):
        self.assertEqual(above("a.b"), ("a", ""))
        self.assertEqual(above("web.db_1.pool"), ("web.db_1", "web", ""))
        self.assertEqual(above("a.b.c.d.e.f"), ("a.b.c.d.e", "a.b.c.d", "a.b.c", "a.b", "a", ""))

    def test_same_parts(self):
        self.assertEqual(above("a.a.a"), ("a.a", "a", ""))

    def test_kinds(self):
        for name in ("", "a", "a.b"):
            self.assertIs(type(above(name)), tuple)
            self.assertTrue(all(is_name(one) for one in above(name)))


class IsUnder(unittest.TestCase):
    def assert_under(self, name, other, answer):
        with self.subTest(name=name, other=other):
            self.assertIs(is_under(name, other), answer)

    def test_itself(self):
        for name in ("", "a", "a.b", "a.b.c.d.e.f", "abcdefgh"):
            self.assert_under(name, name, True)

    def test_each_one_above(self):
        for other in ("a.b.c.d.e", "a.b.c.d", "a.b.c", "a.b", "a", ""):
            self.assert_under("a.b.c.d.e.f", other, True)
            self.assert_under(other, "a.b.c.d.e.f", False)

    def test_the_top(self):
        self.assert_under("web", "", True)
        self.assert_under("", "web", False)

    def test_the_same_first_signs(self):
        self.assert_under("ab", "a", False)
        self.assert_under("a", "ab", False)
        self.assert_under("a.bc", "a.b", False)
        self.assert_under("a.b", "a.bc", False)
        self.assert_under("a_b", "a", False)
        self.assert_under("ab.c", "a", False)

    def test_the_same_last_or_middle_parts(self):
        self.assert_under("a.b", "b", False)
        self.assert_under("a.b.c", "b", False)
        self.assert_under("a.b.c", "b.c", False)
        self.assert_under("a.b", "a.c", False)

    def test_all_pairs_of_few_names(self):
        parts = ["a", "b", "ab"]
        names = [()] + [(x,) for x in parts] + [(x, y) for x in parts for y in parts]
        names += [(x, y, z) for x in parts for y in parts for z in parts]
        for name in names:
            for other in names:
                self.assert_under(".".join(name), ".".join(other), name[:len(other)] == other)

    def test_the_way_up(self):
        names = ["", "a", "a.b", "a.b.c", "a.bc", "ab", "b", "b.a"]
        for name in names:
            way = (name,) + above(name)
            for other in names:
                self.assert_under(name, other, other in way)


class NameWord(unittest.TestCase):
    def test_written_and_read(self):
        for name, word in (("", "*"), ("a", "a"), ("web.db_1", "web.db_1")):
            self.assertEqual(name_word(name), word)
            self.assertEqual(read_name(word), name)

    def test_words_that_are_no_names(self):
        for word in ("", "**", "a.", "*.a", "A", " ", "abcdefghi"):
            self.assertIsNone(read_name(word))


if __name__ == "__main__":
    unittest.main()
