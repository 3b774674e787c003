"""Points 0.2 (a), 3.1, 3.2 and 3.3: forms, their texts, and what is laid out by them."""

import itertools
import re
import unittest

from loghall.errors import BadForm, LogError
from loghall.forms import form_text, laid, read_form
from loghall.levels import level_word

WORDS = ("moment", "level", "name", "words")
MARKS = ("<", ">", "=")
SIGNS = [chr(k) for k in range(32, 127) if k != 37]
FIELD = re.compile(r"(moment|level|name|words)(?:([<>=])([1-9]|[1-3][0-9]|40))?")
PIECE = re.compile(r"\{\{|\}\}|\{[^}]*\}|[^{}]")

PAIRS = [
    ((), ""),
    ((("text", "a"),), "a"),
    ((("text", " "),), " "),
    ((("text", "{"),), "{{"),
    ((("text", "}"),), "}}"),
    ((("text", "{}"),), "{{}}"),
    ((("text", "}{"),), "}}{{"),
    ((("text", "{{"),), "{{{{"),
    ((("text", "}}}"),), "}}}}}}"),
    ((("text", "{level}"),), "{{level}}"),
    ((("text", "a{b}c"),), "a{{b}}c"),
    ((("field", "level", "", 0),), "{level}"),
    ((("field", "words", "<", 1),), "{words<1}"),
    ((("field", "words", "=", 40),), "{words=40}"),
    ((("field", "name", ">", 9), ("text", " "), ("field", "words", "", 0)), "{name>9} {words}"),
    ((("text", "at "), ("field", "moment", ">", 12), ("text", ": ")), "at {moment>12}: "),
    ((("field", "name", "", 0), ("field", "name", "", 0)), "{name}{name}"),
    ((("text", "{"), ("field", "level", "", 0), ("text", "}")), "{{{level}}}"),
    ((("text", "}"), ("field", "level", "", 0), ("text", "{")), "}}{level}{{"),
    ((("text", "<5"), ("field", "level", "", 0), ("text", "=3")), "<5{level}=3"),
    ((("field", "level", "", 0), ("text", "}"), ("field", "level", "", 0)), "{level}}}{level}"),
    ((("field", "level", "", 0), ("text", "{"), ("field", "level", "", 0)), "{level}{{{level}"),
    ((("field", "level", "", 0), ("text", "}{"), ("field", "level", "", 0)), "{level}}}{{{level}"),
]


def all_fields():
    """Each word with no mark, and with each mark and each wide."""
    marked = [("field", word, mark, wide) for word in WORDS for mark in MARKS for wide in range(1, 41)]
    return [("field", word, "", 0) for word in WORDS] + marked


def joined(parts):
    """The parts as a form has them: texts side by side are one."""
    told = []
    for part in parts:
        if part[0] == "text" and told and told[-1][0] == "text":
            told[-1] = ("text", told[-1][1] + part[1])
        else:
            told.append(part)
    return tuple(told)


def read_otherwise(text):
    """What read_form should tell: the parts, or the place of the first fault."""
    parts, at = [], 0
    while at < len(text):
        found = PIECE.match(text, at)
        if found is None:
            return at
        piece = found.group()
        inner = FIELD.fullmatch(piece[1:-1])
        if piece in ("{{", "}}") or len(piece) == 1:
            parts.append(("text", piece[0]))
        elif inner is None:
            return at
        else:
            word, mark, wide = inner.groups()
            parts.append(("field", word, mark or "", int(wide or 0)))
        at = found.end()
    return joined(parts)


class FormText(unittest.TestCase):
    def test_texts(self):
        for parts, text in PAIRS:
            with self.subTest(text=text):
                self.assertEqual(form_text(parts), text)
                self.assertEqual(form_text(parts), text)
                self.assertIs(type(form_text(parts)), str)

    def test_each_field(self):
        for field in all_fields():
            tag, word, mark, wide = field
            behind = mark + str(wide) if mark else ""
            self.assertEqual(form_text((field,)), "{" + word + behind + "}")

    def test_each_sign(self):
        for sign in SIGNS:
            twice = sign * 2 if sign in "{}" else sign
            self.assertEqual(form_text((("text", sign),)), twice)
            self.assertEqual(form_text((("text", "a" + sign + "b"),)), "a" + twice + "b")

    def test_braces_in_a_row(self):
        for many in (1, 2, 3):
            for brace in "{}":
                text = brace * many
                self.assertEqual(form_text((("text", "a" + text),)), "a" + text * 2)
                self.assertEqual(form_text((("text", text + "a"),)), text * 2 + "a")


class ReadForm(unittest.TestCase):
    def assert_bad(self, text, at):
        with self.subTest(text=text):
            for k in range(2):
                with self.assertRaises(BadForm) as caught:
                    read_form(text)
                self.assertEqual(caught.exception.at, at)
                self.assertIs(type(caught.exception.at), int)
                self.assertIsInstance(caught.exception, LogError)

    def test_parts(self):
        for parts, text in PAIRS:
            with self.subTest(text=text):
                self.assertEqual(read_form(text), parts)
                self.assertEqual(read_form(text), parts)

    def test_kinds(self):
        for parts, text in PAIRS:
            told = read_form(text)
            self.assertIs(type(told), tuple)
            for part in told:
                self.assertIs(type(part), tuple)
                kinds = [str, str] if part[0] == "text" else [str, str, str, int]
                self.assertEqual([type(one) for one in part], kinds)

    def test_each_field(self):
        for field in all_fields():
            self.assertEqual(read_form(form_text((field,))), (field,))

    def test_each_text_of_few_braces(self):
        for many in range(1, 6):
            for signs in itertools.product("{}a", repeat=many):
                parts = (("text", "".join(signs)),)
                self.assertEqual(read_form(form_text(parts)), parts)

    def test_braces_beside_fields(self):
        texts = ["", "{", "}", "{{", "}}", "{{{", "}}}", "{}", "}{", "a{", "{a", "a}", "}a", "a"]
        fields = [("field", "level", "", 0), ("field", "name", ">", 7)]
        for ahead, between, behind in itertools.product(texts, repeat=3):
            parts = [("text", ahead), fields[0], ("text", between), fields[1], ("text", behind)]
            parts = tuple(part for part in parts if part != ("text", ""))
            self.assertEqual(read_form(form_text(parts)), parts)

    def test_each_sign(self):
        for sign in SIGNS:
            for text in (sign, sign + "a", "a" + sign, sign * 3):
                parts = (("text", text), ("field", "name", "", 0), ("text", text))
                self.assertEqual(read_form(form_text(parts)), parts)

    def test_a_long_text(self):
        parts = (("text", "{" * 150),)
        self.assertEqual(read_form("{" * 300), parts)
        self.assert_bad("{" * 299, 298)

    def test_a_brace_at_the_end(self):
        self.assert_bad("{", 0)
        self.assert_bad("ab{", 2)
        self.assert_bad("{{{", 2)
        self.assert_bad("{level}{", 7)
        self.assert_bad("{level}}}{", 9)

    def test_a_field_without_its_end(self):
        for inner in ("level", "level<5", "words ", "a", "level<"):
            self.assert_bad("{" + inner, 0)
            self.assert_bad("ab {" + inner, 3)
        self.assert_bad("{level} {name and more", 8)

    def test_a_field_that_would_have_its_end_one_sign_further(self):
        self.assert_bad("{levelx", 0)
        self.assert_bad("{words<5x", 0)

    def test_no_word(self):
        for inner in ("x", "Level", "levels", "leve", "LEVEL", "number", "text", "field", "level name", "nameword"):
            self.assert_bad("{" + inner + "}", 0)
            self.assert_bad("a{" + inner + "<5}", 1)

    def test_blanks_in_a_field(self):
        for inner in (" ", " level", "level ", "level <5", "level< 5", "level<5 ", "le vel"):
            self.assert_bad("{" + inner + "}", 0)

    def test_an_empty_field(self):
        self.assert_bad("{}", 0)
        self.assert_bad("ab{}", 2)
        self.assert_bad("{}}", 0)
        self.assert_bad("{}{level}", 0)

    def test_a_mark_without_figures(self):
        for mark in MARKS:
            self.assert_bad("{level" + mark + "}", 0)
            self.assert_bad("{name} {level" + mark + "}", 7)

    def test_figures_that_are_none(self):
        for mark in MARKS:
            for figures in ("x", "-1", "+1", "1x", "x1", "1.0", "1_0", "5<", "<5", "=5", "5=5", "5<5", ">>5"):
                self.assert_bad("{words" + mark + figures + "}", 0)

    def test_figures_of_other_kinds(self):
        for figures in ("\u0661", "\u00b2", "\uff15"):
            self.assert_bad("{words<" + figures + "}", 0)

    def test_a_zero_ahead(self):
        for mark in MARKS:
            for figures in ("00", "01", "05", "040", "001"):
                self.assert_bad("{words" + mark + figures + "}", 0)

    def test_wide(self):
        for mark in MARKS:
            for wide in (1, 9, 10, 39, 40):
                self.assertEqual(read_form("{words" + mark + str(wide) + "}"), (("field", "words", mark, wide),))
            for wide in (0, 41, 42, 50, 99, 100, 400, 10 ** 30):
                self.assert_bad("{words" + mark + str(wide) + "}", 0)

    def test_figures_without_a_mark(self):
        for figures in ("0", "1", "5", "40", "41"):
            self.assert_bad("{level" + figures + "}", 0)
            self.assert_bad("{" + figures + "}", 0)

    def test_a_mark_without_a_word(self):
        for mark in MARKS:
            self.assert_bad("{" + mark + "5}", 0)
            self.assert_bad("{" + mark + "}", 0)

    def test_an_end_that_stands_alone(self):
        self.assert_bad("}", 0)
        self.assert_bad("ab}", 2)
        self.assert_bad("}ab", 0)
        self.assert_bad("}}}", 2)
        self.assert_bad("} }", 0)
        self.assert_bad("}{level}", 0)
        self.assert_bad("{level}}", 7)
        self.assert_bad("{{level}", 7)
        self.assert_bad("{level}a}", 8)
        self.assert_bad("}{", 0)

    def test_one_behind_another_wrong_place(self):
        self.assert_bad("a}b{", 1)
        self.assert_bad("a{b}c}", 1)
        self.assert_bad("{x}{y}", 0)
        self.assert_bad("{level}{x}}", 7)
        self.assert_bad("}}a} {", 3)
        self.assert_bad("{level<0}{", 0)

    def test_a_brace_within_a_field(self):
        self.assert_bad("{level{name}", 0)
        self.assert_bad("{level{{}", 0)
        self.assert_bad("{le{{vel}", 0)
        self.assert_bad("{level<{5}}", 0)

    def test_two_braces_ahead_of_a_field(self):
        self.assertEqual(read_form("{{{name}"), (("text", "{"), ("field", "name", "", 0)))
        self.assertEqual(read_form("}}{name}"), (("text", "}"), ("field", "name", "", 0)))
        self.assert_bad("{{{{name}", 8)

    def test_two_braces_behind_a_field(self):
        self.assertEqual(read_form("{name}}}"), (("field", "name", "", 0), ("text", "}")))
        self.assertEqual(read_form("{name}{{"), (("field", "name", "", 0), ("text", "{")))
        self.assert_bad("{name}}}}", 8)

    def test_all_texts_of_few_pieces(self):
        pieces = ["{", "}", "level", "<", "5", "a", "=40", "{name>9}"]
        for many in range(6):
            for some in itertools.product(pieces, repeat=many):
                text = "".join(some)
                expected = read_otherwise(text)
                try:
                    told = read_form(text)
                except BadForm as why:
                    told = why.at
                self.assertEqual(told, expected, text)
                if isinstance(told, tuple):
                    self.assertEqual(form_text(told), text)


class Laid(unittest.TestCase):
    record = (86400, 37, "web.db", "slow query")

    def assert_laid(self, form, text, record=None):
        with self.subTest(form=form):
            self.assertEqual(laid(form, record or self.record), text)
            self.assertEqual(laid(form, record or self.record), text)

    def test_each_word(self):
        self.assert_laid("{moment}", "86400")
        self.assert_laid("{level}", "warn+7")
        self.assert_laid("{name}", "web.db")
        self.assert_laid("{words}", "slow query")

    def test_texts_and_several_fields(self):
        self.assert_laid("", "")
        self.assert_laid("nothing of it", "nothing of it")
        self.assert_laid("{moment} [{level}] {name}: {words}", "86400 [warn+7] web.db: slow query")
        self.assert_laid("{name}{name}{level}", "web.dbweb.dbwarn+7")
        self.assert_laid("{{{name}}}", "{web.db}")
        self.assert_laid("{{name}}", "{name}")

    def test_the_top(self):
        record = (0, 0, "", "")
        self.assert_laid("{name}", "*", record)
        self.assert_laid("{name<3}|", "*  |", record)
        self.assert_laid("{name>3}|", "  *|", record)
        self.assert_laid("{name=1}|", "*|", record)
        self.assert_laid("{moment},{level},{words}.", "0,all,.", record)

    def test_empty_words(self):
        record = (0, 0, "", "")
        self.assert_laid("[{words}]", "[]", record)
        for mark in MARKS:
            self.assert_laid("[{words" + mark + "3}]", "[   ]", record)

    def test_each_level(self):
        for level in range(100):
            self.assert_laid("{level}", level_word(level), (1, level, "a", "b"))

    def test_shorter(self):
        for word, text in (("moment", "86400"), ("level", "warn+7"), ("name", "web.db"), ("words", "slow query")):
            for wide in range(len(text) + 1, 41):
                blanks = " " * (wide - len(text))
                self.assert_laid("[{" + word + "<" + str(wide) + "}]", "[" + text + blanks + "]")
                self.assert_laid("[{" + word + ">" + str(wide) + "}]", "[" + blanks + text + "]")
                self.assert_laid("[{" + word + "=" + str(wide) + "}]", "[" + text + blanks + "]")

    def test_just_as_long(self):
        for mark in MARKS:
            self.assert_laid("[{moment" + mark + "5}]", "[86400]")
            self.assert_laid("[{level" + mark + "6}]", "[warn+7]")
            self.assert_laid("[{name" + mark + "6}]", "[web.db]")
            self.assert_laid("[{words" + mark + "10}]", "[slow query]")

    def test_longer(self):
        for word, text in (("moment", "86400"), ("level", "warn+7"), ("name", "web.db"), ("words", "slow query")):
            for wide in range(1, len(text)):
                self.assert_laid("[{" + word + "<" + str(wide) + "}]", "[" + text + "]")
                self.assert_laid("[{" + word + ">" + str(wide) + "}]", "[" + text + "]")
                self.assert_laid("[{" + word + "=" + str(wide) + "}]", "[" + text[:wide] + "]")

    def test_words_of_the_most_signs(self):
        record = (999999999, 99, "a.b.c.d.e.f", "w" * 80)
        self.assert_laid("{words=40}", "w" * 40, record)
        self.assert_laid("{words<40}", "w" * 80, record)
        self.assert_laid("{words>40}", "w" * 80, record)
        self.assert_laid("{moment=9}", "999999999", record)

    def test_what_stands_in_words_is_no_form(self):
        record = (0, 0, "a", "{name} {{}} {")
        self.assert_laid("{words}", "{name} {{}} {", record)
        self.assert_laid("{words=3}{words>14}", "{na {name} {{}} {", record)

    def test_blanks_of_the_words_stay(self):
        self.assert_laid("[{words}]", "[  a  ]", (0, 0, "a", "  a  "))
        self.assert_laid("[{words=2}]", "[  ]", (0, 0, "a", "  a  "))
        self.assert_laid("[{words<6}]", "[  a   ]", (0, 0, "a", "  a  "))

    def test_refused_as_the_form(self):
        for text, at in (("{", 0), ("a}", 1), ("{x}", 0), ("{level} {words<41}", 8), ("{level<0}", 0), ("{{level}", 7)):
            with self.subTest(text=text):
                with self.assertRaises(BadForm) as caught:
                    laid(text, self.record)
                self.assertEqual(caught.exception.at, at)


if __name__ == "__main__":
    unittest.main()
