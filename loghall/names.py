"""Names: the top, which is empty, or parts with a dot between each two."""

PART_SIGNS = "abcdefghijklmnopqrstuvwxyz0123456789_"
MOST_PARTS = 6
MOST_SIGNS = 8
TOP_WORD = "*"


def is_part(text):
    """Whether a text may stand as one part of a name."""
    return 1 <= len(text) <= MOST_SIGNS and all(sign in PART_SIGNS for sign in text)


def is_name(thing):
    """Whether any thing is a name."""
    if not isinstance(thing, str):
        return False
    if thing == "":
        return True
    parts = thing.split(".")
    return len(parts) <= MOST_PARTS and all(is_part(part) for part in parts)


def above(name):
    """The names above a name, the nearest first and the top last; none of the top."""
    if name == "":
        return ()
    parts = name.split(".")
    return tuple([".".join(parts[:many]) for many in range(len(parts) - 1, -1, -1)])


def is_under(name, other):
    """Whether a name is the other one, or the other one is above it."""
    return name == other or other in above(name)


def name_word(name):
    """How a name is written where it may not be empty."""
    return TOP_WORD if name == "" else name


def read_name(word):
    """The name that is written so where it may not be empty; None if none is."""
    if word == TOP_WORD:
        return ""
    return word if word != "" and is_name(word) else None
