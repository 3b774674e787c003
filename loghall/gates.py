"""Gates: which records pass, and how a gate is written."""

from loghall.names import is_under, name_word

# How much a word holds its gates together; all other gates hold more.
STRENGTHS = {"or": 1, "and": 2}
WEAKEST = 1
STRONGEST = 3


def passes_plain(gate, record):
    """Whether a gate without gates in it lets a record pass."""
    moment, level, name, words = record
    word = gate[0]
    if word == "level":
        return level >= gate[1]
    if word == "under":
        return is_under(name, gate[1])
    if word == "has":
        return gate[1] in words
    return word == "yes"


def passes(gate, record):
    """Whether a gate lets a record pass."""
    word = gate[0]
    if word == "not":
        return not passes(gate[1], record)
    if word == "and":
        return passes(gate[1], record) and passes(gate[2], record)
    if word == "or":
        return passes(gate[1], record) or passes(gate[2], record)
    return passes_plain(gate, record)


def shown_plain(gate):
    """The text of a gate without gates in it."""
    word = gate[0]
    if word == "level":
        return f"level {gate[1]}"
    if word == "under":
        return f"under {name_word(gate[1])}"
    if word == "has":
        return f"has '{gate[1]}'"
    return word


def shown_within(gate, least):
    """The text of a gate where only gates of at least this strength stand without brackets."""
    word = gate[0]
    if word == "not":
        return f"not {shown_within(gate[1], STRONGEST)}"
    if word not in STRENGTHS:
        return shown_plain(gate)
    strength = STRENGTHS[word]
    # Of the same word the first ones hold together, so only on the right the same needs brackets.
    text = f"{shown_within(gate[1], strength)} {word} {shown_within(gate[2], strength + 1)}"
    return text if strength >= least else f"({text})"


def shown(gate):
    """The text of a gate."""
    return shown_within(gate, WEAKEST)
