"""Records that are held back, and how many are let in a span."""

from loghall.errors import Falling


class Holder:
    """Holds records until one is of its level, or as many are there as it takes."""

    def __init__(self, many, level):
        self.many = many
        self.level = level
        self.records = []

    def put(self, record):
        """Holds a record, or lets it go with all that are held; tells what is let go."""
        self.records.append(record)
        if record[1] >= self.level or len(self.records) >= self.many:
            return self.let_go()
        return ()

    def held(self):
        """What is held."""
        return tuple(self.records)

    def let_go(self):
        """What is held, which then is held no more."""
        records = self.held()
        self.records = []
        return records


class Limit:
    """Lets so many of each key pass in any span."""

    def __init__(self, many, span):
        self.many = many
        self.span = span
        self.latest = 0
        # For each key the moments of those that were let; only such that can count again are kept.
        self.let_moments = {}

    def take(self, moment, key):
        """Whether one of a key is let at a moment; Falling if an earlier one was above it."""
        if moment < self.latest:
            raise Falling(f"the moment {moment} is below {self.latest}")
        self.latest = moment
        counting = [one for one in self.let_moments.get(key, []) if one > moment - self.span]
        is_let = len(counting) < self.many
        if is_let:
            counting.append(moment)
        self.let_moments[key] = counting
        return is_let
