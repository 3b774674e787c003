"""Texts that come again, counted; logs led together."""

from loghall.errors import BadRow
from loghall.figures import read_number

TEXT_SIGN = "="
COUNT_SIGN = "+"
MOST_TEXTS = 1000


def more_of(texts, start):
    """How many more times the text at a place comes at once."""
    end = start + 1
    while end < len(texts) and texts[end] == texts[start]:
        end += 1
    return end - start - 1


def short(texts):
    """The rows of texts: each one that is not like the one ahead, and how often it comes again."""
    rows = []
    at = 0
    while at < len(texts):
        more = more_of(texts, at)
        rows.append(TEXT_SIGN + texts[at])
        if more > 0:
            rows.append(f"{COUNT_SIGN}{more}")
        at += 1 + more
    return tuple(rows)


def texts_of(row, ahead):
    """The texts that a row tells behind those that stand ahead; BadRow if it tells none."""
    if row.startswith(TEXT_SIGN):
        return [row[1:]]
    more = read_number(row[1:], MOST_TEXTS) if row.startswith(COUNT_SIGN) else None
    if not more or not ahead:
        raise BadRow(f"the row {row!r} tells no text")
    return [ahead[-1]] * more


def long(rows):
    """The texts that have these rows; BadRow for all other tuples."""
    texts = []
    for row in rows:
        texts += texts_of(row, texts)
        if len(texts) > MOST_TEXTS:
            raise BadRow("the rows tell too many texts")
    # Texts have one tuple of rows, so shortening them finds counts behind counts and like texts side by side.
    if short(texts) != rows:
        raise BadRow("no texts have these rows")
    return tuple(texts)


def moment_of(record):
    """The moment of a record."""
    return record[0]


def merged(logs):
    """All records of logs as one whose moments never fall."""
    records = [record for log in logs for record in log]
    # Those of one moment stay in their order: that of the logs, and in each its own.
    return tuple(sorted(records, key=moment_of))
