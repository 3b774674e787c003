"""Reading the texts of gates."""

from loghall.errors import BadGate
from loghall.figures import read_number
from loghall.levels import MOST
from loghall.names import read_name

WORD_SIGNS = "abcdefghijklmnopqrstuvwxyz0123456789_.*"
BRACKETS = "()"
QUOTE = "'"
MOST_DEEP = 30


def piece_end(text, start):
    """The place behind the word, text or bracket that begins at a place; not above it, if none begins there."""
    if text[start] in BRACKETS:
        return start + 1
    if text[start] == QUOTE:
        return text.find(QUOTE, start + 1) + 1
    end = start
    while end < len(text) and text[end] in WORD_SIGNS:
        end += 1
    return end


def pieces_of(text):
    """The words, texts and brackets of a text, each with its place; behind them an empty one for the end."""
    pieces = []
    start = 0
    while start < len(text):
        if text[start] == " ":
            start += 1
            continue
        end = piece_end(text, start)
        if end <= start:
            raise BadGate(start)
        pieces.append((text[start:end], start))
        start = end
    pieces.append(("", len(text)))
    return pieces


def figures_in(piece):
    """The level that stands behind the word level; None if there is none."""
    return read_number(piece, MOST)


def name_in(piece):
    """The name that stands behind the word under; None if there is none."""
    return read_name(piece)


def text_in(piece):
    """The text that stands between two quotes; None if there is none."""
    return piece[1:-1] if piece.startswith(QUOTE) else None


READERS = {"level": figures_in, "under": name_in, "has": text_in}


def read_plain(word, behind):
    """The gate of a word and of the piece behind it."""
    piece, place = behind
    reader = READERS[word]
    told = reader(piece)
    if told is None:
        raise BadGate(place)
    return (word, told)


# Each function below is handed the pieces, the count of those that are read already, and how many of not and
# brackets stand around; it tells the gate and how many pieces are read then.


def read_bracketed(pieces, count, deep):
    """What is written behind a bracket, up to the one that closes it."""
    gate, count = read_or(pieces, count, deep)
    piece, place = pieces[count]
    if piece != ")":
        raise BadGate(place)
    return gate, count + 1


def read_one(pieces, count, deep):
    """A gate that is held together most."""
    piece, place = pieces[count]
    count += 1
    if piece in ("yes", "no"):
        return (piece,), count
    if piece in READERS:
        return read_plain(piece, pieces[count]), count + 1
    if piece == "not" and deep < MOST_DEEP:
        gate, count = read_one(pieces, count, deep + 1)
        return ("not", gate), count
    if piece == "(" and deep < MOST_DEEP:
        return read_bracketed(pieces, count, deep + 1)
    raise BadGate(place)


def read_and(pieces, count, deep):
    """A gate, or several with and between."""
    gate, count = read_one(pieces, count, deep)
    while pieces[count][0] == "and":
        other, count = read_one(pieces, count + 1, deep)
        gate = ("and", gate, other)
    return gate, count


def read_or(pieces, count, deep):
    """A gate, or several with and or or between."""
    gate, count = read_and(pieces, count, deep)
    while pieces[count][0] == "or":
        other, count = read_and(pieces, count + 1, deep)
        gate = ("or", gate, other)
    return gate, count


def read_gate(text):
    """The gate that is written so; BadGate else."""
    pieces = pieces_of(text)
    gate, count = read_or(pieces, 0, 0)
    piece, place = pieces[count]
    if piece != "":
        raise BadGate(place)
    return gate
