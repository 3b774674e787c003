"""Points 0.4 and 1.2: levels and their texts."""

import unittest

from loghall.errors import BadLevel
from loghall.levels import level_word, read_level

WORDS = ["all", "debug", "info", "warn", "error", "fatal"]
SIGNS = [chr(k) for k in range(32, 127) if k != 37]


def all_texts():
    texts = []
    for word in WORDS:
        reach = 50 if word == "fatal" else 10
        texts += [word] + [word + "+" + str(more) for more in range(1, reach)]
    return texts


TEXTS = all_texts()
LEVELS = {text: level for level, text in enumerate(TEXTS)}


class LevelWord(unittest.TestCase):
    def test_the_words(self):
        self.assertEqual([level_word(level) for level in (0, 10, 20, 30, 40, 50)], WORDS)

    def test_some_others(self):
        self.assertEqual(level_word(1), "all+1")
        self.assertEqual(level_word(9), "all+9")
        self.assertEqual(level_word(11), "debug+1")
        self.assertEqual(level_word(49), "error+9")
        self.assertEqual(level_word(51), "fatal+1")
        self.assertEqual(level_word(60), "fatal+10")
        self.assertEqual(level_word(99), "fatal+49")

    def test_all_levels(self):
        self.assertEqual(len(TEXTS), 100)
        self.assertEqual([level_word(level) for level in range(100)], TEXTS)


class ReadLevel(unittest.TestCase):
    def assert_bad(self, texts):
        for text in texts:
            with self.subTest(text=text):
                with self.assertRaises(BadLevel):
                    read_level(text)

    def test_all_levels(self):
        self.assertEqual([read_level(text) for text in TEXTS], list(range(100)))

    def test_kinds(self):
        for text in TEXTS:
            self.assertIs(type(read_level(text)), int)

    def test_empty(self):
        self.assert_bad([""])

    def test_other_words(self):
        self.assert_bad(["a", "al", "alls", "none", "warning", "err", "debu", "inf", "information", "*", "all+all"])
        self.assert_bad(["none+5", "0", "10", "5", "99", "+5", "+", "level", "debug info", "'info'"])

    def test_capitals(self):
        self.assert_bad(["All", "DEBUG", "Info", "WARN+5", "Error+1", "fataL"])

    def test_nothing_behind_the_plus(self):
        self.assert_bad(word + "+" for word in WORDS)

    def test_plus_zero(self):
        self.assert_bad(word + more for word in WORDS for more in ("+0", "+00", "+000"))

    def test_a_needless_zero(self):
        self.assert_bad(word + "+0" + str(more) for word in WORDS for more in range(1, 50))
        self.assert_bad(word + "+00" + str(more) for word in WORDS for more in range(1, 50))

    def test_more_than_the_word_reaches(self):
        self.assert_bad(["all+10", "debug+10", "info+10", "warn+10", "error+10", "fatal+50"])
        self.assert_bad(word + "+" + str(more) for word in WORDS[:-1] for more in range(10, 200))
        self.assert_bad("fatal+" + str(more) for more in range(50, 200))
        self.assert_bad(["fatal+1000", "all+" + "9" * 290])

    def test_wrong_figures(self):
        self.assert_bad(["all+-1", "info+-5", "info++5", "info+5+1", "info-5", "info+x", "info+5x", "info+1_0"])
        self.assert_bad(["fatal+1_0", "fatal+_1", "fatal+1.0", "fatal+1e1", "fatal+0x1", "info5", "info +5"])
        self.assert_bad(["fatal+\u0661", "fatal+\u00b2", "fatal+\uff15"])

    def test_blanks(self):
        for text in ("info", "info+5", "fatal+12"):
            self.assert_bad([" " + text, text + " ", text + "\n", "\n" + text, text.replace("+", " ") + "  "])
        self.assert_bad(["info +5", "info+ 5", "info + 5", "in fo", "fatal+1 2", "fatal+ 1", "fatal+1 ", " "])

    def test_one_sign_more(self):
        for text in TEXTS:
            for at in range(len(text) + 1):
                for sign in SIGNS:
                    self.assert_as_listed(text[:at] + sign + text[at:])

    def test_one_sign_less_or_another(self):
        for text in TEXTS:
            for at in range(len(text)):
                self.assert_as_listed(text[:at] + text[at + 1:])
                for sign in SIGNS:
                    self.assert_as_listed(text[:at] + sign + text[at + 1:])

    def assert_as_listed(self, text):
        try:
            told = read_level(text)
        except BadLevel:
            told = None
        self.assertEqual(told, LEVELS.get(text), text)


if __name__ == "__main__":
    unittest.main()
