"""The hall: names with levels and writers, to which records are told."""

from loghall.errors import NoWriter
from loghall.forms import laid_parts, read_form
from loghall.gates import passes
from loghall.gatetext import read_gate
from loghall.names import above

TOP = ""
TOP_LEVEL = 30


def way_up(name):
    """A name and those above it, the nearest first."""
    return (name,) + above(name)


class Writer:
    """What stands at a name and takes records."""

    def __init__(self, name, least, gate, parts):
        self.name = name
        self.least = least
        self.gate = gate
        self.parts = parts
        self.taken = []

    def offer(self, record):
        """Whether the writer takes a record that comes to its name."""
        if self.least > record[1] or not passes(self.gate, record):
            return False
        self.taken.append(record)
        return True

    def laid_rows(self):
        """What the writer took, laid out by its form."""
        return tuple([laid_parts(self.parts, record) for record in self.taken])


class Hall:
    """Levels and writers of the names in a tree."""

    def __init__(self):
        self.levels = {TOP: TOP_LEVEL}
        self.quiet_below = 0
        # By their numbers, which only rise, so that the order of the keys is that of the numbers.
        self.writers = {}
        self.last_number = 0
        self.closed_names = {}

    def set_level(self, name, level):
        """Gives a name a level of its own."""
        self.levels[name] = level

    def unset_level(self, name):
        """Takes the own level of a name off; the top has its first one again."""
        if name == TOP:
            self.levels[TOP] = TOP_LEVEL
        else:
            self.levels.pop(name, None)

    def level_of(self, name):
        """The own level of a name, else that of the nearest name above that has one."""
        on_way = [self.levels[place] for place in way_up(name) if place in self.levels]
        return on_way[0]

    def quiet(self, level):
        """Lets nothing below a level be told, from now on."""
        self.quiet_below = level

    def is_told(self, name, level):
        """Whether a level is told at a name."""
        return level >= self.quiet_below and level >= self.level_of(name)

    def add_writer(self, name, least, gate, form):
        """Puts a writer at a name and tells its number; BadGate or BadForm, the gate first."""
        gate_read = read_gate(gate)
        parts = read_form(form)
        self.last_number += 1
        self.writers[self.last_number] = Writer(name, least, gate_read, parts)
        return self.last_number

    def writer_of(self, number):
        """The writer with a number; NoWriter if there is none."""
        if number not in self.writers:
            raise NoWriter(f"no writer has the number {number}")
        return self.writers[number]

    def take_away(self, number):
        """Takes a writer away; NoWriter if there is none."""
        self.writer_of(number)
        del self.writers[number]

    def close(self, name, closed):
        """Says whether what comes to a name goes no further up."""
        self.closed_names[name] = closed

    def places_of(self, name):
        """The names to which comes what is told at a name, in their order."""
        places = []
        for place in way_up(name):
            places.append(place)
            if self.closed_names.get(place, False):
                break
        return places

    def offered_at(self, place, record):
        """The numbers of the writers at a name that take a record, in their order."""
        numbers = []
        for number, writer in self.writers.items():
            if writer.name == place and writer.offer(record):
                numbers.append(number)
        return numbers

    def tell(self, record):
        """Tells a record, and the numbers of the writers that took it, as they did."""
        level, name = record[1:3]
        if not self.is_told(name, level):
            return ()
        numbers = []
        for place in self.places_of(name):
            numbers += self.offered_at(place, record)
        return tuple(numbers)

    def rows(self, number):
        """What a writer took, laid out by its form; NoWriter if there is none."""
        return self.writer_of(number).laid_rows()
