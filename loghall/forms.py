"""Forms: how a record is laid out, and how a form is written."""

from loghall.errors import BadForm
from loghall.figures import read_number
from loghall.levels import level_word
from loghall.names import name_word

FIELD_WORDS = ("moment", "level", "name", "words")
MARKS = "<>="
BRACES = "{}"
MOST_WIDE = 40


def part_text(part):
    """The text of one part of a form."""
    if part[0] == "text":
        return part[1].replace("{", "{{").replace("}", "}}")
    word, mark, wide = part[1:]
    return "{" + (word if mark == "" else f"{word}{mark}{wide}") + "}"


def form_text(parts):
    """The text of a form."""
    return "".join(part_text(part) for part in parts)


def split_field(inner):
    """The word, the mark and the figures of what stands between two braces."""
    for at, sign in enumerate(inner):
        if sign in MARKS:
            return inner[:at], sign, inner[at + 1:]
    return inner, "", ""


def read_field(inner):
    """The field that has this between its braces; None if none has it."""
    word, mark, figures = split_field(inner)
    if word not in FIELD_WORDS:
        return None
    if mark == "":
        return ("field", word, "", 0)
    wide = read_number(figures, MOST_WIDE)
    # Neither figures that are none nor 0 make a field.
    return ("field", word, mark, wide) if wide else None


def field_at(text, start):
    """The field that begins at the place of a single brace, and the place behind it."""
    end = text.find("}", start)
    if text[start] != "{" or end < 0:
        raise BadForm(start)
    field = read_field(text[start + 1:end])
    if field is None:
        raise BadForm(start)
    return field, end + 1


def text_parts(text):
    """A text as a list of parts of a form: none, if it is empty."""
    return [] if text == "" else [("text", text)]


def read_form(text):
    """The parts of the form that is written so; BadForm else."""
    parts = []
    plain = ""
    at = 0
    while at < len(text):
        sign = text[at]
        if sign not in BRACES:
            plain += sign
            at += 1
        elif text[at:at + 2] == sign + sign:
            plain += sign
            at += 2
        else:
            field, at = field_at(text, at)
            parts += text_parts(plain) + [field]
            plain = ""
    return tuple(parts + text_parts(plain))


def field_words(word, record):
    """What a record has for the word of a field."""
    moment, level, name, words = record
    if word == "moment":
        return str(moment)
    if word == "level":
        return level_word(level)
    return name_word(name) if word == "name" else words


def laid_part(part, record):
    """What one part of a form makes of a record."""
    if part[0] == "text":
        return part[1]
    word, mark, wide = part[1:]
    text = field_words(word, record)
    if mark == "<":
        return text.ljust(wide)
    if mark == ">":
        return text.rjust(wide)
    return text[:wide].ljust(wide) if mark == "=" else text


def laid_parts(parts, record):
    """A record laid out by the parts of a form."""
    return "".join(laid_part(part, record) for part in parts)


def laid(form, record):
    """A record laid out by the text of a form; BadForm as read_form."""
    return laid_parts(read_form(form), record)
