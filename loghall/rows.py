"""Rows: how a record and its number stand in a file."""

from loghall.errors import BadLevel, BadRow
from loghall.figures import read_number
from loghall.levels import level_word, read_level, written_level
from loghall.names import TOP_WORD, name_word, read_name

MOST_NUMBER = 999999999
MOST_MOMENT = 999999999
MOST_WORDS = 80
PARTS = 5
# The sign for parts in a hundred, which no text may have.
BARRED_SIGN = 37


def row_of(number, record):
    """The row of a record with its number."""
    moment, level, name, words = record
    return f"{number} {moment} {level_word(level)} {name_word(name)} {words}"


def is_sign(sign):
    """Whether a sign may stand in words."""
    return " " <= sign <= "~" and ord(sign) != BARRED_SIGN


def are_words(text):
    """Whether a text may be the words of a record."""
    return len(text) <= MOST_WORDS and all(is_sign(sign) for sign in text)


def level_in(text):
    """The level with this text; None if there is none."""
    try:
        return read_level(text)
    except BadLevel:
        return None


def read_row(text):
    """The pair of the number and the record that have this row; BadRow for all other texts."""
    # The words may have blanks, at their beginning too, so only the blanks ahead of them part anything.
    parts = text.split(" ", PARTS - 1)
    if len(parts) != PARTS:
        raise BadRow(f"too few parts are in the row {text!r}")
    number = read_number(parts[0], MOST_NUMBER)
    moment = read_number(parts[1], MOST_MOMENT)
    level = level_in(parts[2])
    name = read_name(parts[3])
    words = parts[4]
    if number is None or number == 0 or None in (moment, level, name) or not are_words(words):
        raise BadRow(f"no record has the row {text!r}")
    return number, (moment, level, name, words)


def read_written(row):
    """The pair of the number and the record whose row row_of made."""
    # Nothing is refused here: what was written may go beyond the limits that read_row keeps to.
    number, moment, level, name, words = row.split(" ", PARTS - 1)
    return int(number), (int(moment), written_level(level), "" if name == TOP_WORD else name, words)
