"""Shelves: records written as rows to files that are turned by size and day."""

from loghall.rows import read_written, row_of

LOG = "log"
LINE_END = "\n"
DAY = 86400


def file_name(turned):
    """The name of the file that was turned so many times."""
    return LOG if turned == 0 else f"{LOG}.{turned}"


def text_on(disk, turned):
    """The text of the file that was turned so many times; empty if there is none."""
    name = file_name(turned)
    return disk.text(name) if name in disk.files() else ""


def whole_rows(text):
    """The rows of a file's text that have their line ends."""
    return text.split(LINE_END)[:-1]


def day_of(record):
    """The day of a record's moment."""
    return record[0] // DAY


def last_number(disk, keep):
    """The number of the last row that stands in the files; 0 if there is none."""
    for turned in range(keep + 1):
        rows = whole_rows(text_on(disk, turned))
        if rows:
            return read_written(rows[-1])[0]
    return 0


def first_free(disk):
    """The least number that no turned file has."""
    names = disk.files()
    number = 1
    while file_name(number) in names:
        number += 1
    return number


def kept_rows(disk, keep):
    """The pairs of number and record for all rows with line ends, from the oldest file on."""
    rows = []
    for turned in range(keep, -1, -1):
        rows += whole_rows(text_on(disk, turned))
    return tuple([read_written(row) for row in rows])


class Shelf:
    """The files of one log on a disk."""

    def __init__(self, disk, most, keep):
        self.disk = disk
        self.most = most
        self.keep = keep
        self.cut_half_row()
        self.end_turning()

    def cut_half_row(self):
        """Cuts a row without its line end away, which a stop left."""
        text = text_on(self.disk, 0)
        whole = text.rfind(LINE_END) + 1
        if whole < len(text):
            self.disk.cut(LOG, whole)

    def end_turning(self):
        """Ends a turning that a stop broke off when a file had its new number already."""
        # Turned files have their numbers without a gap, but where one of them was moved and the next one was not.
        gap = first_free(self.disk)
        names = self.disk.files()
        if any(file_name(number) in names for number in range(gap + 1, self.keep + 1)):
            self.move_up_to(gap)

    def move_up_to(self, number):
        """Gives the files below a free number one more each, the oldest first."""
        for turned in range(number, 0, -1):
            self.disk.rename(file_name(turned - 1), file_name(turned))

    def turn(self):
        """Turns the files; the oldest one goes if there is no room for one more."""
        free = first_free(self.disk)
        if free > self.keep:
            free -= 1
            self.disk.drop(file_name(free))
        self.move_up_to(free)

    def must_turn(self, line, record):
        """Whether the files are turned ahead of a record and its line."""
        text = text_on(self.disk, 0)
        if text == "":
            return False
        first = read_written(whole_rows(text)[0])[1]
        return len(text) + len(line) > self.most or day_of(first) != day_of(record)

    def write(self, number, record):
        """Writes a record, unless its number stands there already; whether it did."""
        if number <= last_number(self.disk, self.keep):
            return False
        line = row_of(number, record) + LINE_END
        if self.must_turn(line, record):
            self.turn()
        self.disk.put_behind(LOG, line)
        return True
