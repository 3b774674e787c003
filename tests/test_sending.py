"""Points 0.2 (d), (e), 6.3 and 6.4: all is delivered once, wherever the disk stops."""

import random
import unittest

from loghall.disks import Disk
from loghall.errors import BadGate, LogError
from loghall.gates import passes
from loghall.gatetext import read_gate
from loghall.rows import row_of
from loghall.sending import delivered, looked_up, send_once
from loghall.shelves import kept_rows
from shelf_model import DAY, model_kept, model_texts, texts_of

# Short sequences that turn their files several times, by size, by day, and by both: most, keep, records.
SHORT = [
    (1, 1, tuple((k, 0, "", "") for k in range(5))),
    (1, 2, tuple((k, 0, "", "") for k in range(6))),
    (25, 2, tuple((k, 0, "", "x" * (k % 3)) for k in range(8))),
    (1000, 2, tuple((k * DAY // 2, 0, "", "") for k in range(8))),
    (24, 3, ((0, 0, "", ""), (1, 0, "", ""), (DAY, 0, "", ""), (DAY, 9, "a", "xx"), (DAY, 0, "", ""), (9 * DAY, 0, "", ""))),
]
SOME = ((5, 10, "a", "one"), (6, 40, "a.b", "two"), (DAY, 30, "b", "three"), (DAY + 1, 99, "", "two more"))


def most_steps(most, keep, records):
    """Above the count of steps that all records take."""
    return sum(len(row_of(number, record)) + keep + 3 for number, record in enumerate(records, start=1))


class Sending(unittest.TestCase):
    def assert_a_last_stretch(self, disk, most, keep, records):
        kept = kept_rows(disk, keep)
        last = kept[-1][0] if kept else 0
        whole = model_kept(records[:last], most, keep)
        # The oldest file may be gone already, ahead of the row for which the others are turned.
        self.assertIn(kept, (whole, model_kept(records[:last + 1], most, keep)[:-1]))
        self.assertEqual(kept, tuple(enumerate(records, start=1))[last - len(kept):last])
        return last

    def assert_all_is_there(self, disk, most, keep, records):
        self.assertEqual(texts_of(disk), model_texts(records, most, keep))
        self.assertEqual(kept_rows(disk, keep), model_kept(records, most, keep))

    def sent(self, stops, most, keep, records):
        """How often a disk stopped, all being as it should be at each stop and in the end."""
        disk = Disk(stops)
        many, last = 0, 0
        while not self.was_sent(disk, most, keep, records):
            many += 1
            now = self.assert_a_last_stretch(disk, most, keep, records)
            self.assertGreaterEqual(now, last)
            last = now
        self.assert_all_is_there(disk, most, keep, records)
        return many

    def was_sent(self, disk, most, keep, records):
        told = send_once(disk, most, keep, records)
        self.assertIn(told, (True, False))
        self.assertIs(type(told), bool)
        return told

    def test_without_stops(self):
        for most, keep, records in SHORT:
            self.assertEqual(self.sent((), most, keep, records), 0)

    def test_no_records(self):
        for stops in ((), (0,), (0, 0)):
            disk = Disk(stops)
            self.assertIs(send_once(disk, 10, 2, ()), True)
            self.assertEqual(delivered(disk, 10, 2, ()), 0)
            self.assertEqual(disk.files(), ())

    def test_send_once(self):
        disk = Disk((3, 12))
        records = ((0, 0, "", ""), (1, 0, "", ""))
        self.assertIs(send_once(disk, 100, 2, records), False)
        self.assertEqual(texts_of(disk), {"log": "1 0"})
        self.assertIs(send_once(disk, 100, 2, records), False)
        self.assertEqual(texts_of(disk), {"log": "1 0 all * \n"})
        self.assertIs(send_once(disk, 100, 2, records), True)
        self.assertEqual(texts_of(disk), {"log": "1 0 all * \n2 1 all * \n"})

    def test_each_stop(self):
        for most, keep, records in SHORT:
            told = [self.sent((stop,), most, keep, records) for stop in range(most_steps(most, keep, records))]
            self.assertEqual(told, sorted(told, reverse=True))
            self.assertEqual((told[0], told[-1]), (1, 0))
            for stop, many in enumerate(told):
                disk = Disk((stop,))
                self.assertEqual(delivered(disk, most, keep, records), many)
                self.assert_all_is_there(disk, most, keep, records)

    def test_each_pair_of_stops(self):
        for most, keep, records in SHORT:
            for first in range(most_steps(most, keep, records)):
                if self.sent((first,), most, keep, records) == 0:
                    break
                for second in range(most_steps(most, keep, records)):
                    if self.sent((first, second), most, keep, records) == 1:
                        break
                    disk = Disk((first, second))
                    self.assertEqual(delivered(disk, most, keep, records), 2)

    def test_stops_at_once_behind_each_stop(self):
        for most, keep, records in SHORT:
            for stop in range(most_steps(most, keep, records)):
                if self.sent((stop,), most, keep, records) == 0:
                    break
                for more in ((0, 0), (1, 0), (1, 1), (0, 1, 0, 2)):
                    self.assertEqual(self.sent((stop,) + more, most, keep, records), 1 + len(more))

    def test_long_plans_of_stops(self):
        for seed in range(300):
            source = random.Random(seed)
            most, keep, records = source.choice(SHORT)
            stops = tuple(source.choice([0, 1, 2, 3, 5, 9, 12, 14, 20]) for k in range(source.randrange(40)))
            many = self.sent(stops, most, keep, records)
            self.assertLessEqual(many, len(stops))
            disk = Disk(stops)
            self.assertEqual(delivered(disk, most, keep, records), many)
            self.assert_all_is_there(disk, most, keep, records)

    def test_many_records(self):
        for seed in range(60):
            source = random.Random(seed)
            most, keep, moment, records = source.choice([1, 30, 80, 200]), source.randrange(1, 10), 0, []
            for k in range(source.randrange(30)):
                moment += source.choice([0, 1, DAY // 4, DAY])
                records.append((moment, source.randrange(100), source.choice(["", "a", "a.b"]), "w " * source.randrange(9)))
            stops = tuple(source.randrange(60) for k in range(source.randrange(30)))
            self.sent(stops, most, keep, tuple(records))

    def test_a_row_with_all_but_its_line_end(self):
        records = ((0, 0, "", ""),)
        disk = Disk((10,))
        self.assertIs(send_once(disk, 100, 2, records), False)
        self.assertEqual(disk.text("log"), "1 0 all * ")
        self.assertEqual(kept_rows(disk, 2), ())
        self.assertIs(send_once(disk, 100, 2, records), True)
        self.assertEqual(disk.text("log"), "1 0 all * \n")

    def test_a_stop_just_behind_the_last_step(self):
        disk = Disk((11, 0))
        self.assertEqual(delivered(disk, 100, 2, ((0, 0, "", ""),)), 0)
        self.assertEqual(delivered(disk, 100, 2, ((0, 0, "", ""), (0, 0, "", ""))), 2)
        self.assertEqual(disk.text("log"), "1 0 all * \n2 0 all * \n")

    def test_delivered_once_more(self):
        for most, keep, records in SHORT:
            for stops in ((), (3,), (20, 0, 5), (30, 30, 30), (1000,)):
                disk = Disk(stops)
                delivered(disk, most, keep, records)
                texts = texts_of(disk)
                for k in range(2):
                    self.assertEqual(delivered(disk, most, keep, records), 0)
                    self.assertIs(send_once(disk, most, keep, records), True)
                    self.assertEqual(texts_of(disk), texts)

    def test_more_records_behind_those_that_are_there(self):
        most, keep, records = SHORT[2]
        disk = Disk(())
        for many in range(len(records) + 1):
            self.assertEqual(delivered(disk, most, keep, records[:many]), 0)
            self.assert_all_is_there(disk, most, keep, records[:many])

    def test_kinds(self):
        self.assertIs(type(delivered(Disk((3,)), 100, 2, SOME)), int)

    def test_like_records_are_each_written(self):
        disk = Disk((5, 5))
        delivered(disk, 1000, 2, ((0, 0, "", "x"),) * 4)
        self.assertEqual(kept_rows(disk, 2), tuple((k, (0, 0, "", "x")) for k in range(1, 5)))

    def test_the_records_stay_as_they_are(self):
        records = tuple(SOME)
        delivered(Disk((7, 7, 7)), 40, 2, records)
        self.assertEqual(records, SOME)


class LookedUp(unittest.TestCase):
    def setUp(self):
        self.disk = Disk(())
        delivered(self.disk, 1000, 3, SOME)

    def test_all(self):
        self.assertEqual(looked_up(self.disk, 3, "yes"), SOME)
        self.assertEqual(looked_up(self.disk, 3, " under * "), SOME)

    def test_none(self):
        self.assertEqual(looked_up(self.disk, 3, "no"), ())
        self.assertEqual(looked_up(self.disk, 3, "has 'four'"), ())
        self.assertIs(type(looked_up(self.disk, 3, "no")), tuple)

    def test_some(self):
        self.assertEqual(looked_up(self.disk, 3, "level 40"), (SOME[1], SOME[3]))
        self.assertEqual(looked_up(self.disk, 3, "under a"), SOME[:2])
        self.assertEqual(looked_up(self.disk, 3, "has 'two' and not under a"), SOME[3:])
        for gate in ("level 31 or under b", "not has 'o'", "under a.b", "not (level 20 and under *)"):
            expected = tuple(record for record in SOME if passes(read_gate(gate), record))
            self.assertEqual(looked_up(self.disk, 3, gate), expected)

    def test_no_files(self):
        self.assertEqual(looked_up(Disk(()), 3, "yes"), ())

    def test_those_that_are_kept(self):
        records = tuple((k, k, "a", "w") for k in range(20))
        disk = Disk(())
        delivered(disk, 1, 4, records)
        self.assertEqual(looked_up(disk, 4, "yes"), records[-5:])
        self.assertEqual(looked_up(disk, 4, "level 17"), records[17:])

    def test_half_rows_are_none(self):
        disk = Disk((15,))
        send_once(disk, 1000, 2, SOME)
        self.assertEqual(looked_up(disk, 2, "yes"), ())
        disk = Disk((18,))
        send_once(disk, 1000, 2, SOME)
        self.assertEqual(looked_up(disk, 2, "yes"), SOME[:1])

    def test_bad_gates(self):
        for disk in (self.disk, Disk(()), Disk((0,))):
            for gate, at in (("", 0), ("maybe", 0), ("yes and", 7), ("yes ?", 4), ("level 100", 6), ("has 'x", 4)):
                with self.assertRaises(BadGate) as caught:
                    looked_up(disk, 3, gate)
                self.assertEqual(caught.exception.at, at)
                self.assertIsInstance(caught.exception, LogError)

    def test_looks_change_nothing(self):
        disk = Disk((40,))
        send_once(disk, 20, 3, SOME)
        texts = texts_of(disk)
        for k in range(3):
            self.assertEqual(looked_up(disk, 3, "yes"), looked_up(disk, 3, "yes"))
            self.assertEqual(texts_of(disk), texts)


if __name__ == "__main__":
    unittest.main()
