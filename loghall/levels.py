"""Levels: whole numbers from 0 to 99, and their texts."""

from loghall.errors import BadLevel
from loghall.figures import read_number

MOST = 99
STARTS = {"all": 0, "debug": 10, "info": 20, "warn": 30, "error": 40, "fatal": 50}


def nearest_word(level):
    """The word with the greatest level that is not above this one."""
    nearest = "all"
    for word, start in STARTS.items():
        if start <= level:
            nearest = word
    return nearest


def level_word(level):
    """The text of a level."""
    word = nearest_word(level)
    more = level - STARTS[word]
    return word if more == 0 else f"{word}+{more}"


def read_level(text):
    """The level that has this text; BadLevel for all others."""
    word, plus, figures = text.partition("+")
    level = STARTS.get(word, 0) + (read_number(figures, MOST) or 0)
    # A level has one text, so writing it again finds every other spelling (debug+10, info+05, warn+).
    if level > MOST or level_word(level) != text:
        raise BadLevel(f"no level has the text {text!r}")
    return level


def written_level(text):
    """The level whose text level_word made, below 0 and above 99 too."""
    word, plus, figures = text.partition("+")
    return STARTS[word] + int(figures or "0")
