"""Points 2.1 and 2.2: which records a gate lets pass, and its text."""

import itertools
import unittest

from loghall.gates import passes, shown
from loghall.gatetext import read_gate

YES = ("yes",)
NO = ("no",)
LEAVES = [("yes",), ("no",), ("level", 5), ("under", "a.b"), ("under", ""), ("has", "x y")]


def record(level=30, name="web.db", words="some words here", moment=60):
    return (moment, level, name, words)


def smaller_gates(deep, leaves):
    """All gates of these leaves, at most so deep."""
    if deep == 0:
        return leaves
    inner = smaller_gates(deep - 1, leaves)
    gates = list(leaves) + [("not", gate) for gate in inner]
    return gates + [(word, left, right) for word in ("and", "or") for left in inner for right in inner]


def bracket_pairs(text):
    """The places of brackets that belong together; the text has none between quotes."""
    waiting, pairs = [], []
    for at, sign in enumerate(text):
        if sign == "(":
            waiting.append(at)
        if sign == ")":
            pairs.append((waiting.pop(), at))
    return pairs


class Passes(unittest.TestCase):
    def assert_passes(self, gate, *records):
        for one in records:
            with self.subTest(gate=gate, record=one):
                self.assertIs(passes(gate, one), True)
                self.assertIs(passes(gate, one), True)

    def assert_kept(self, gate, *records):
        for one in records:
            with self.subTest(gate=gate, record=one):
                self.assertIs(passes(gate, one), False)
                self.assertIs(passes(gate, one), False)

    def test_yes_and_no(self):
        for one in (record(), record(level=0, name="", words="", moment=0), record(level=99)):
            self.assert_passes(YES, one)
            self.assert_kept(NO, one)

    def test_level(self):
        self.assert_passes(("level", 30), record(level=30), record(level=31), record(level=99))
        self.assert_kept(("level", 30), record(level=29), record(level=0))
        self.assert_passes(("level", 0), record(level=0), record(level=99))
        self.assert_passes(("level", 99), record(level=99))
        self.assert_kept(("level", 99), record(level=98))

    def test_all_levels(self):
        for least, level in itertools.product(range(100), repeat=2):
            self.assertIs(passes(("level", least), record(level=level)), level >= least)

    def test_under(self):
        gate = ("under", "web.db")
        self.assert_passes(gate, record(name="web.db"), record(name="web.db.pool"), record(name="web.db.a.b.c.d"))
        self.assert_kept(gate, record(name="web"), record(name=""), record(name="web.dbx"), record(name="web.d"))
        self.assert_kept(gate, record(name="web.db2.a"), record(name="db"), record(name="a.web.db"))
        self.assert_kept(gate, record(name="webxdb"), record(name="web_db"))

    def test_under_the_top(self):
        self.assert_passes(("under", ""), record(name=""), record(name="a"), record(name="a.b.c.d.e.f"))
        self.assert_kept(("under", "a"), record(name=""))

    def test_has(self):
        for text in ("some", "e wor", "here", "some words here", "", " ", "s"):
            self.assert_passes(("has", text), record(words="some words here"))
        for text in ("Some", "some here", "words  here", "x", " some", "here ", "web", "30", "some words here."):
            self.assert_kept(("has", text), record(words="some words here"))

    def test_has_in_empty_words(self):
        self.assert_passes(("has", ""), record(words=""))
        self.assert_kept(("has", " "), record(words=""))
        self.assert_kept(("has", "a"), record(words=""))

    def test_has_looks_at_words_alone(self):
        self.assert_kept(("has", "web"), record(name="web", words="none"))
        self.assert_kept(("has", "warn"), record(level=30, words="none"))
        self.assert_kept(("has", "60"), record(moment=60, words="none"))

    def test_has_with_signs_of_patterns(self):
        self.assert_passes(("has", "a.*b"), record(words="xa.*bx"))
        self.assert_kept(("has", "a.*b"), record(words="aab"))
        self.assert_passes(("has", "("), record(words="f(x)"))

    def test_not(self):
        self.assert_passes(("not", NO), record())
        self.assert_kept(("not", YES), record())
        self.assert_passes(("not", ("not", YES)), record())
        self.assert_kept(("not", ("level", 30)), record(level=30))
        self.assert_passes(("not", ("level", 30)), record(level=29))

    def test_and_and_or(self):
        for left, right in itertools.product((True, False), repeat=2):
            gates = (YES if left else NO, YES if right else NO)
            self.assertIs(passes(("and",) + gates, record()), left and right)
            self.assertIs(passes(("or",) + gates, record()), left or right)

    def test_in_one_another(self):
        gate = ("and", ("or", ("level", 40), ("has", "slow")), ("not", ("under", "web.db")))
        self.assert_passes(gate, record(level=40, name="web", words=""), record(level=0, name="", words="so slow"))
        self.assert_kept(gate, record(level=40, name="web.db", words="slow"))
        self.assert_kept(gate, record(level=39, name="web", words="fast"))

    def test_all_small_gates(self):
        leaves = [("level", 30), ("under", "a"), ("has", "x")]
        records = [record(level, name, words) for level in (29, 30) for name in ("b", "a.b") for words in ("y", "xx")]
        for gate in smaller_gates(2, leaves):
            for one in records:
                self.assertIs(passes(gate, one), told_plainly(gate, one))

    def test_150_gates(self):
        deep = YES
        for k in range(149):
            deep = ("not", deep)
        self.assert_kept(deep, record())
        left, right = YES, YES
        for k in range(74):
            left = ("and", left, YES)
            right = ("or", NO, right)
        self.assert_passes(left, record())
        self.assert_passes(right, record())


def told_plainly(gate, one):
    """What a gate of the leaves above says, by way of Python's own words."""
    truths = {("level", 30): one[1] >= 30, ("under", "a"): one[2] == "a.b", ("has", "x"): one[3] == "xx"}
    if gate in truths:
        return truths[gate]
    if gate[0] == "not":
        return not told_plainly(gate[1], one)
    both = [told_plainly(gate[1], one), told_plainly(gate[2], one)]
    return all(both) if gate[0] == "and" else any(both)


class Shown(unittest.TestCase):
    def assert_text(self, gate, text):
        with self.subTest(text=text):
            self.assertEqual(shown(gate), text)
            self.assertEqual(shown(gate), text)
            self.assertEqual(read_gate(text), gate)

    def test_plain_gates(self):
        self.assert_text(YES, "yes")
        self.assert_text(NO, "no")
        self.assert_text(("level", 0), "level 0")
        self.assert_text(("level", 5), "level 5")
        self.assert_text(("level", 99), "level 99")
        self.assert_text(("under", ""), "under *")
        self.assert_text(("under", "web"), "under web")
        self.assert_text(("under", "a.b_1.c.d.e.f"), "under a.b_1.c.d.e.f")
        self.assert_text(("has", "slow query"), "has 'slow query'")
        self.assert_text(("has", ""), "has ''")
        self.assert_text(("has", " (a) \"b\" and not "), "has ' (a) \"b\" and not '")

    def test_all_levels(self):
        for level in range(100):
            self.assert_text(("level", level), "level " + str(level))

    def test_names_that_are_words_of_gates(self):
        for word in ("yes", "no", "level", "under", "has", "not", "and", "or", "5"):
            self.assert_text(("under", word), "under " + word)
            self.assert_text(("and", ("under", word), ("under", word)), f"under {word} and under {word}")

    def test_not_and_or_of_plain_gates(self):
        self.assert_text(("not", YES), "not yes")
        self.assert_text(("not", ("level", 5)), "not level 5")
        self.assert_text(("and", YES, NO), "yes and no")
        self.assert_text(("or", ("has", "a"), ("under", "")), "has 'a' or under *")

    def test_within_not(self):
        self.assert_text(("not", ("not", YES)), "not not yes")
        self.assert_text(("not", ("and", YES, NO)), "not (yes and no)")
        self.assert_text(("not", ("or", YES, NO)), "not (yes or no)")

    def test_within_and_on_the_left(self):
        self.assert_text(("and", ("not", YES), NO), "not yes and no")
        self.assert_text(("and", ("and", YES, NO), YES), "yes and no and yes")
        self.assert_text(("and", ("or", YES, NO), YES), "(yes or no) and yes")

    def test_within_and_on_the_right(self):
        self.assert_text(("and", YES, ("not", NO)), "yes and not no")
        self.assert_text(("and", YES, ("and", NO, YES)), "yes and (no and yes)")
        self.assert_text(("and", YES, ("or", NO, YES)), "yes and (no or yes)")

    def test_within_or_on_the_left(self):
        self.assert_text(("or", ("not", YES), NO), "not yes or no")
        self.assert_text(("or", ("and", YES, NO), YES), "yes and no or yes")
        self.assert_text(("or", ("or", YES, NO), YES), "yes or no or yes")

    def test_within_or_on_the_right(self):
        self.assert_text(("or", YES, ("not", NO)), "yes or not no")
        self.assert_text(("or", YES, ("and", NO, YES)), "yes or no and yes")
        self.assert_text(("or", YES, ("or", NO, YES)), "yes or (no or yes)")

    def test_within_one_another(self):
        self.assert_text(("not", ("and", ("or", YES, NO), ("not", ("or", NO, NO)))), "not ((yes or no) and not (no or no))")
        self.assert_text(("or", ("or", YES, ("or", NO, YES)), ("and", NO, ("and", YES, NO))),
                         "yes or (no or yes) or no and (yes and no)")

    def test_all_small_gates_are_read_again(self):
        for gate in smaller_gates(2, LEAVES[:4]) + smaller_gates(1, LEAVES):
            self.assertEqual(read_gate(shown(gate)), gate)

    def test_just_the_brackets_that_are_needed(self):
        for gate in smaller_gates(3, [YES])[::7] + smaller_gates(2, [YES, ("has", "x")]):
            text = shown(gate)
            self.assertNotIn("( ", text)
            self.assertNotIn(" )", text)
            self.assertNotIn("  ", text)
            self.assertEqual(read_gate(text), gate)
            for begin, end in bracket_pairs(text):
                without = text[:begin] + text[begin + 1:end] + text[end + 1:]
                self.assertNotEqual(read_gate(without), gate, text)

    def test_150_gates(self):
        deep, left, right = YES, YES, YES
        for k in range(149):
            deep = ("not", deep)
        for k in range(74):
            left = ("or", left, ("has", "x" * 20))
            right = ("and", NO, right)
        self.assertEqual(shown(deep), "not " * 149 + "yes")
        self.assert_text(left, "yes" + " or has 'xxxxxxxxxxxxxxxxxxxx'" * 74)
        self.assertEqual(shown(right), "no and (" * 73 + "no and yes" + ")" * 73)


if __name__ == "__main__":
    unittest.main()
