"""Points 0.2 (a), 2.2 and 2.3: reading the texts of gates."""

import itertools
import unittest

from loghall.errors import BadGate
from loghall.gates import shown
from loghall.gatetext import read_gate

YES = ("yes",)
NO = ("no",)
SIGNS = [chr(k) for k in range(32, 127) if k != 37]
WORD_SIGNS = "abcdefghijklmnopqrstuvwxyz0123456789_.*"


def nots(many, gate):
    for k in range(many):
        gate = ("not", gate)
    return gate


class Read(unittest.TestCase):
    def assert_reads(self, text, gate):
        with self.subTest(text=text):
            self.assertEqual(read_gate(text), gate)
            self.assertEqual(read_gate(text), gate)

    def test_plain_gates(self):
        self.assert_reads("yes", YES)
        self.assert_reads("no", NO)
        self.assert_reads("level 30", ("level", 30))
        self.assert_reads("under web.db", ("under", "web.db"))
        self.assert_reads("under *", ("under", ""))
        self.assert_reads("has 'a b'", ("has", "a b"))
        self.assert_reads("has ''", ("has", ""))

    def test_kinds(self):
        gate = read_gate("level 5 and not (under * or has 'x')")
        self.assertEqual([type(part) for part in gate], [str, tuple, tuple])
        self.assertIs(type(gate[1][1]), int)
        self.assertIs(type(gate[2][1][1][1]), str)

    def test_and_holds_more_than_or(self):
        self.assert_reads("yes or no and yes", ("or", YES, ("and", NO, YES)))
        self.assert_reads("yes and no or yes", ("or", ("and", YES, NO), YES))
        self.assert_reads("yes and no or no and yes", ("or", ("and", YES, NO), ("and", NO, YES)))
        self.assert_reads("no or yes and no or yes", ("or", ("or", NO, ("and", YES, NO)), YES))

    def test_the_first_ones_hold_together(self):
        self.assert_reads("yes and no and yes", ("and", ("and", YES, NO), YES))
        self.assert_reads("yes or no or yes", ("or", ("or", YES, NO), YES))
        self.assert_reads("no and no and no and yes", ("and", ("and", ("and", NO, NO), NO), YES))

    def test_not_takes_just_what_is_behind_it(self):
        self.assert_reads("not yes and no", ("and", ("not", YES), NO))
        self.assert_reads("not yes or no", ("or", ("not", YES), NO))
        self.assert_reads("yes and not no or not not yes", ("or", ("and", YES, ("not", NO)), nots(2, YES)))
        self.assert_reads("not (yes and no)", ("not", ("and", YES, NO)))
        self.assert_reads("not level 5 and no", ("and", ("not", ("level", 5)), NO))

    def test_brackets_hold_most(self):
        self.assert_reads("(yes or no) and yes", ("and", ("or", YES, NO), YES))
        self.assert_reads("yes and (no and yes)", ("and", YES, ("and", NO, YES)))
        self.assert_reads("yes or (no or yes)", ("or", YES, ("or", NO, YES)))

    def test_more_blanks(self):
        self.assert_reads("   yes   ", YES)
        self.assert_reads("  level    7  and   not  (   yes  or no  )  ", ("and", ("level", 7), ("not", ("or", YES, NO))))
        self.assert_reads("under     a.b", ("under", "a.b"))
        self.assert_reads("has     '  x  '   ", ("has", "  x  "))

    def test_no_blanks_at_brackets_and_texts(self):
        self.assert_reads("not(yes)or(no)and(yes)", ("or", ("not", YES), ("and", NO, YES)))
        self.assert_reads("has'x'and has'y'or(no)", ("or", ("and", ("has", "x"), ("has", "y")), NO))
        self.assert_reads("(has'')", ("has", ""))
        self.assert_reads("(level 5)and(under a)", ("and", ("level", 5), ("under", "a")))
        self.assert_reads("has'x'and(no)or has'and'", ("or", ("and", ("has", "x"), NO), ("has", "and")))

    def test_needless_brackets(self):
        self.assert_reads("(yes)", YES)
        self.assert_reads("((((yes))))", YES)
        self.assert_reads("(yes and no) and (yes)", ("and", ("and", YES, NO), YES))
        self.assert_reads("(not (yes)) or (level 5)", ("or", ("not", YES), ("level", 5)))

    def test_levels(self):
        for level in range(100):
            self.assert_reads("level " + str(level), ("level", level))

    def test_words_of_gates_as_names(self):
        for word in ("yes", "no", "level", "under", "has", "not", "and", "or", "5", "_"):
            self.assert_reads("not under " + word + " and yes", ("and", ("not", ("under", word)), YES))

    def test_each_sign_of_words(self):
        for sign in WORD_SIGNS:
            if sign not in ".*":
                self.assert_reads("under " + sign + "b", ("under", sign + "b"))
                self.assert_reads("(under a.b" + sign + ")", ("under", "a.b" + sign))

    def test_what_stands_between_quotes(self):
        for sign in SIGNS:
            if sign != "'":
                for text in (sign, sign + "a", "a" + sign, sign * 3):
                    self.assert_reads("has '" + text + "'", ("has", text))

    def test_a_long_chain(self):
        gate = YES
        for k in range(49):
            gate = ("or", gate, YES)
        self.assert_reads("yes or " * 49 + "yes", gate)

    def test_blanks_put_in_anywhere_between(self):
        pieces = ["not", "(", "has", "'a  b'", "and", "under", "*", ")", "or", "(", "no", ")"]
        gate = ("or", ("not", ("and", ("has", "a  b"), ("under", ""))), NO)
        for between in (" ", "  ", "     "):
            self.assert_reads(between.join(pieces), gate)
            self.assert_reads(between + between.join(pieces) + between, gate)
        for at in range(len(pieces) + 1):
            self.assert_reads(" ".join(pieces[:at]) + "   " + " ".join(pieces[at:]), gate)


class Refused(unittest.TestCase):
    def assert_at(self, text, at):
        with self.subTest(text=text):
            for again in range(2):
                with self.assertRaises(BadGate) as caught:
                    read_gate(text)
                self.assertEqual(caught.exception.at, at)
                self.assertIs(type(caught.exception.at), int)

    def test_too_short(self):
        for text in ("", " ", "     ", "not", "not ", "(", "( ", "(yes", "(yes ", "((yes)", "yes and", "yes and ",
                     "yes or", "level", "level ", "under", "under  ", "has", "has ", "yes and not", "yes and (",
                     "not (yes", "(yes and no", "(yes or", "yes or level"):
            self.assert_at(text, len(text))

    def test_each_sign_that_begins_nothing(self):
        for sign in SIGNS:
            if sign not in WORD_SIGNS + "()' ":
                self.assert_at(sign, 0)
                self.assert_at("yes" + sign, 3)
                self.assert_at("yes " + sign + " no", 4)
                self.assert_at("under a" + sign + "b", 7)
                self.assert_at("has 'x'" + sign, 7)
                self.assert_at("has '" + sign + "' " + sign, 8)

    def test_other_signs(self):
        for sign in ("\n", "\t", "\x00", "\u00e4", "\u0661", "\u00a0"):
            self.assert_at("yes" + sign, 3)
            self.assert_at(sign + "yes", 0)

    def test_capitals(self):
        self.assert_at("Yes", 0)
        self.assert_at("yEs", 1)
        self.assert_at("yes AND no", 4)
        self.assert_at("level X", 6)

    def test_a_quote_without_another_one(self):
        self.assert_at("'", 0)
        self.assert_at("has '", 4)
        self.assert_at("has 'abc", 4)
        self.assert_at("has 'a' and has 'b", 16)
        self.assert_at("has 'a''", 7)
        self.assert_at("has 'a#b", 4)
        self.assert_at("has a'b", 5)

    def test_the_first_of_wrong_signs_and_quotes(self):
        self.assert_at("yes # has 'x", 4)
        self.assert_at("has 'x # yes", 4)
        self.assert_at("# $", 0)
        self.assert_at("has '#' $ '", 8)

    def test_a_wrong_sign_goes_ahead_of_a_wrong_word(self):
        self.assert_at("foo #", 4)
        self.assert_at("and or ) ) -", 11)
        self.assert_at("yes yes yes 'x", 12)
        self.assert_at("level 100 or X", 13)
        self.assert_at("( ) !", 4)
        self.assert_at("not " * 31 + "yes #", 128)
        self.assert_at("foo # and (", 4)

    def test_words_with_which_no_gate_begins(self):
        for text in ("foo", "and", "or", "and yes", "or yes", ")", "'x'", "5", "*", "yesno", "notyes", "level5",
                     "not.yes", "yes.", "_", "a.b", "yess", "ye", "()"):
            self.assert_at(text, 1 if text == "()" else 0)

    def test_words_with_which_no_gate_goes_on(self):
        self.assert_at("yes yes", 4)
        self.assert_at("yes   no", 6)
        self.assert_at("yes not no", 4)
        self.assert_at("yes level 5", 4)
        self.assert_at("yes (no)", 4)
        self.assert_at("yes 'x'", 4)
        self.assert_at("yes'x'", 3)
        self.assert_at("yes)", 3)
        self.assert_at("(yes))", 5)
        self.assert_at("(yes", 4)
        self.assert_at("(yes no)", 5)
        self.assert_at("(yes)(no)", 5)
        self.assert_at("yes and and no", 8)
        self.assert_at("yes and or no", 8)
        self.assert_at("yes or )", 7)
        self.assert_at("not and yes", 4)
        self.assert_at("not )", 4)
        self.assert_at("( and yes)", 2)
        self.assert_at("yes foo no", 4)
        self.assert_at("yes andno", 4)
        self.assert_at("has 'x' 'y'", 8)
        self.assert_at("has 'x''y'", 7)
        self.assert_at("yes and foo or bar", 8)

    def test_levels(self):
        for word in ("100", "101", "999", "05", "00", "000", "007", "030", "099", "5.", "5_0", "5x", "x", "warn", "*",
                     "1000000", "9" * 100, "yes", "level", "and", "."):
            self.assert_at("level " + word, 6)
            self.assert_at("not   level  " + word + " and yes", 13)
        for other in ("'5'", "(5)", ")", "(", "''"):
            self.assert_at("level " + other, 6)

    def test_names(self):
        for word in (".", "a.", ".a", "a..b", "**", "*.a", "a.*", "abcdefghi", "a.b.c.d.e.f.g", "a*"):
            self.assert_at("under " + word, 6)
            self.assert_at("yes or under " + word + " foo", 13)
        for other in ("'a'", "''", "(a)", ")", "("):
            self.assert_at("under " + other, 6)

    def test_texts(self):
        for other in ("x", "(", ")", "yes", "('x')", "*", "and"):
            self.assert_at("has " + other, 4)

    def test_30_within_one_another(self):
        self.assertEqual(read_gate("not " * 30 + "yes"), nots(30, YES))
        self.assertEqual(read_gate("(" * 30 + "yes" + ")" * 30), YES)
        self.assertEqual(read_gate("not (" * 15 + "yes" + ")" * 15), nots(15, YES))
        self.assertEqual(read_gate("(not " * 15 + "yes" + ")" * 15), nots(15, YES))

    def test_31_within_one_another(self):
        self.assert_at("not " * 31 + "yes", 120)
        self.assert_at("not " * 31, 120)
        self.assert_at("not " * 40 + "yes", 120)
        self.assert_at("(" * 31 + "yes" + ")" * 31, 30)
        self.assert_at("(" * 31, 30)
        self.assert_at("(" * 40 + "yes" + ")" * 40, 30)
        self.assert_at("not (" * 15 + "not yes" + ")" * 15, 75)
        self.assert_at("not (" * 15 + "(yes)" + ")" * 15, 75)
        self.assert_at("(not " * 15 + "(yes)" + ")" * 15, 75)
        self.assert_at("(not " * 15 + "not yes" + ")" * 15, 75)
        self.assert_at("(not " * 16 + "yes" + ")" * 16, 75)
        self.assert_at("not" + "(" * 30 + "yes" + ")" * 30, 32)
        self.assert_at("(" * 30 + "not yes" + ")" * 30, 30)

    def test_all_that_is_too_deep_fits_in_300_signs(self):
        self.assert_at("(" * 300, 30)
        self.assert_at("not " * 75, 120)
        self.assert_at("(" * 30, 30)
        self.assert_at("not " * 30, 120)

    def test_beside_one_another_is_not_within(self):
        deep = "(" * 30 + "yes" + ")" * 30
        self.assertEqual(read_gate(deep + "and" + deep + "or" + deep), ("or", ("and", YES, YES), YES))
        many = " and ".join(["not (no)"] * 25)
        self.assertEqual(shown(read_gate(many)), " and ".join(["not no"] * 25))
        row = "not " * 29 + "yes"
        self.assertEqual(read_gate("(" + row + " or " + row + ")"), ("or", nots(29, YES), nots(29, YES)))
        self.assertEqual(read_gate("not " * 30 + "yes and (no)"), ("and", nots(30, YES), NO))
        self.assert_at("(" + row + " or not " + row + ")", 1 + 119 + 4 + 29 * 4)

    def test_an_earlier_wrong_word_goes_ahead_of_the_31st(self):
        self.assert_at("(" * 29 + "foo" + "(" * 31, 29)
        self.assert_at("(" * 31 + "foo", 30)
        self.assert_at("(" * 30 + "foo", 30)


class AllShortTexts(unittest.TestCase):
    """Each text of up to three pieces, against all gates that can be put together of few pieces."""

    PIECES = ["yes", "not", "and", "or", "(", ")", "level", "5", "under", "a", "has", "'x'"]

    def gates_of(self, most):
        """By their length, the rows of up to so many pieces that are gates."""
        by_length = {many: set() for many in range(1, most + 1)}
        for many in range(1, most + 1):
            made = by_length[many]
            if many == 1:
                made.add(("yes",))
            if many == 2:
                made.update([("level", "5"), ("under", "a"), ("under", "5"), ("has", "'x'")])
                made.update(("under", word) for word in self.PIECES if word.isalpha())
            for inner in by_length.get(many - 1, ()):
                made.add(("not",) + inner)
            for inner in by_length.get(many - 2, ()):
                made.add(("(",) + inner + (")",))
            for left in range(1, many - 1):
                for one, other in itertools.product(by_length[left], by_length.get(many - 1 - left, ())):
                    made.update([one + ("and",) + other, one + ("or",) + other])
        return by_length

    def test_each(self):
        gates = self.gates_of(6)
        begun = set()
        for row in itertools.chain(*gates.values()):
            begun.update(row[:many] for many in range(len(row) + 1))
        # All other three pieces that begin a gate need at most three more.
        begun.add(("(", "(", "("))
        for many in range(4):
            for row in itertools.product(self.PIECES, repeat=many):
                self.assert_as_made(row, many > 0 and row in gates[many], begun)

    def assert_as_made(self, row, is_gate, begun):
        text = " ".join(row)
        places = [len(" ".join(row[:at])) + (1 if at else 0) for at in range(len(row))] + [len(text)]
        wrong = [at for at in range(len(row)) if row[:at + 1] not in begun]
        try:
            read_gate(text)
            told = None
        except BadGate as refused:
            told = refused.at
        expected = None if is_gate else places[wrong[0]] if wrong else len(text)
        self.assertEqual(told, expected, text)


if __name__ == "__main__":
    unittest.main()
