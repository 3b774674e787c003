"""Sending records to a disk that may stop, and looking them up."""

from loghall.errors import Stopped
from loghall.gates import passes
from loghall.gatetext import read_gate
from loghall.shelves import Shelf, kept_rows


def write_all(disk, most, keep, records):
    """Makes a shelf and writes all records, numbered from 1 on."""
    shelf = Shelf(disk, most, keep)
    for number, record in enumerate(records, start=1):
        shelf.write(number, record)


def send_once(disk, most, keep, records):
    """Writes all records; whether the disk did not stop."""
    try:
        write_all(disk, most, keep, records)
    except Stopped:
        return False
    return True


def delivered(disk, most, keep, records):
    """Writes all records, over and over, till the disk does not stop; how often it stopped."""
    stops = 0
    while not send_once(disk, most, keep, records):
        stops += 1
    return stops


def looked_up(disk, keep, gate):
    """The records in the files that pass a gate; BadGate as read_gate."""
    gate_read = read_gate(gate)
    return tuple([record for number, record in kept_rows(disk, keep) if passes(gate_read, record)])
