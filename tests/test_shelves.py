"""Points 0.2 (e), 6.2 and 6.3: rows in files that are turned, and shelves made anew."""

import random
import unittest

from loghall.disks import Disk
from loghall.errors import Stopped
from loghall.rows import row_of
from loghall.shelves import Shelf, kept_rows
from shelf_model import DAY, model_kept, model_text, model_texts, texts_of


def record(moment=60, words="x", level=30, name="a"):
    return (moment, level, name, words)


def written(records, most, keep, disk=None):
    """A disk on which a shelf wrote records."""
    disk = disk or Disk(())
    shelf = Shelf(disk, most, keep)
    for number, one in enumerate(records, start=1):
        shelf.write(number, one)
    return disk


def disk_with(stops, **texts):
    """A disk with files, whose stops count from there on."""
    disk = Disk((stops[0] + sum(len(text) for text in texts.values()),) + stops[1:] if stops else ())
    for name, text in texts.items():
        disk.put_behind(name.replace("_", "."), text)
    return disk


def lines(*numbers):
    """The text of a file with rows of these numbers, each of 15 signs up to 9."""
    return "".join(row_of(number, record()) + "\n" for number in numbers)


class Write(unittest.TestCase):
    def test_a_new_shelf(self):
        disk = Disk((0,))
        Shelf(disk, 100, 3)
        self.assertEqual(disk.files(), ())

    def test_rows(self):
        disk = Disk(())
        shelf = Shelf(disk, 100, 3)
        self.assertIs(shelf.write(1, (0, 0, "", "")), True)
        self.assertEqual(texts_of(disk), {"log": "1 0 all * \n"})
        self.assertIs(shelf.write(2, (86399, 37, "web.db", "slow query")), True)
        self.assertEqual(texts_of(disk), {"log": "1 0 all * \n2 86399 warn+7 web.db slow query\n"})

    def test_just_fits_most(self):
        two = len(lines(1, 2))
        self.assertEqual(texts_of(written([record()] * 2, two, 3)), {"log": lines(1, 2)})
        self.assertEqual(texts_of(written([record()] * 2, two + 1, 3)), {"log": lines(1, 2)})

    def test_one_sign_too_long(self):
        two = len(lines(1, 2))
        self.assertEqual(texts_of(written([record()] * 2, two - 1, 3)), {"log": lines(2), "log.1": lines(1)})

    def test_longer_than_most_alone(self):
        for most in (1, 5, len(lines(1)) - 1, len(lines(1))):
            self.assertEqual(texts_of(written([record()], most, 3)), {"log": lines(1)})
            self.assertEqual(texts_of(written([record()] * 2, most, 3)), {"log": lines(2), "log.1": lines(1)})

    def test_a_long_one_behind_short_ones(self):
        records = [record(), record(), record(words="w" * 80), record()]
        texts = texts_of(written(records, 40, 3))
        long_one = row_of(3, records[2]) + "\n"
        self.assertEqual(texts, {"log": lines(4), "log.1": long_one, "log.2": lines(1, 2)})

    def test_a_new_day_at_its_first_moment(self):
        records = [record(DAY - 2), record(DAY - 1), record(DAY), record(2 * DAY - 1), record(2 * DAY)]
        texts = texts_of(written(records, 1000, 9))
        self.assertEqual(texts, {
            "log": row_of(5, records[4]) + "\n",
            "log.1": row_of(3, records[2]) + "\n" + row_of(4, records[3]) + "\n",
            "log.2": row_of(1, records[0]) + "\n" + row_of(2, records[1]) + "\n"})

    def test_moment_0_and_the_last_of_its_day(self):
        self.assertEqual(written([record(0), record(DAY - 1)], 1000, 3).files(), ("log",))
        self.assertEqual(written([record(0), record(DAY)], 1000, 3).files(), ("log", "log.1"))

    def test_days_that_fall(self):
        texts = texts_of(written([record(DAY), record(DAY - 1)], 1000, 3))
        self.assertEqual(sorted(texts), ["log", "log.1"])

    def test_days_that_are_left_out(self):
        self.assertEqual(written([record(5), record(5 + 7 * DAY)], 1000, 3).files(), ("log", "log.1"))

    def test_only_one_turning_for_day_and_size(self):
        records = [record(5), record(DAY + 5)]
        self.assertEqual(written(records, 1, 3).files(), ("log", "log.1"))

    def test_keep_1(self):
        disk = Disk(())
        shelf = Shelf(disk, 1, 1)
        expected = [{"log": lines(1)}] + [{"log": lines(k), "log.1": lines(k - 1)} for k in range(2, 6)]
        for number in range(1, 6):
            self.assertIs(shelf.write(number, record()), True)
            self.assertEqual(texts_of(disk), expected[number - 1])

    def test_keep_9(self):
        disk = written([record()] * 25, 1, 9)
        expected = {"log." + str(k): lines(25 - k) for k in range(1, 10)}
        expected["log"] = lines(25)
        self.assertEqual(texts_of(disk), expected)

    def test_the_oldest_goes_only_if_there_are_keep(self):
        disk = Disk(())
        shelf = Shelf(disk, 1, 3)
        many = []
        for number in range(1, 7):
            shelf.write(number, record())
            many.append(len(disk.files()))
        self.assertEqual(many, [1, 2, 3, 4, 4, 4])
        self.assertEqual(disk.text("log.3"), lines(3))

    def test_numbers_that_stand_already(self):
        disk = Disk(())
        shelf = Shelf(disk, 35, 2)
        for number in range(1, 8):
            self.assertIs(shelf.write(number, record()), True)
            texts = texts_of(disk)
            for other in range(1, number + 1):
                self.assertIs(shelf.write(other, record(words="other")), False)
            self.assertEqual(texts_of(disk), texts)

    def test_numbers_that_stand_already_take_no_step(self):
        disk = disk_with((0,), log=lines(3), log_1=lines(1, 2))
        shelf = Shelf(disk, 1, 3)
        for number in (1, 2, 3):
            self.assertIs(shelf.write(number, record(DAY)), False)
        with self.assertRaises(Stopped):
            shelf.write(4, record())

    def test_numbers_that_went_with_their_file(self):
        disk = written([record()] * 6, 1, 1)
        shelf = Shelf(disk, 1, 1)
        for number in range(1, 7):
            self.assertIs(shelf.write(number, record()), False)
        self.assertEqual(texts_of(disk), {"log": lines(6), "log.1": lines(5)})

    def test_behind_a_shelf_made_anew(self):
        disk = written([record()] * 5, 35, 2)
        shelf = Shelf(disk, 35, 2)
        self.assertEqual([shelf.write(number, record()) for number in range(1, 8)], [False] * 5 + [True] * 2)
        self.assertEqual(texts_of(disk), model_texts([record()] * 7, 35, 2))

    def test_two_shelves_of_one_disk_in_turns(self):
        disk = Disk(())
        shelves = [Shelf(disk, 35, 2), Shelf(disk, 35, 2)]
        for number in range(1, 9):
            self.assertIs(shelves[number % 2].write(number, record()), True)
            self.assertIs(shelves[1 - number % 2].write(number, record()), False)
        self.assertEqual(texts_of(disk), model_texts([record()] * 8, 35, 2))

    def test_two_disks_beside_one_another(self):
        first, second = Disk(()), Disk(())
        Shelf(first, 35, 2).write(1, record())
        self.assertIs(Shelf(second, 35, 2).write(1, record()), True)

    def test_numbers_of_more_figures(self):
        disk = written([record()] * 120, 300, 9)
        self.assertEqual(texts_of(disk), model_texts([record()] * 120, 300, 9))
        self.assertIs(Shelf(disk, 300, 9).write(99, record()), False)
        self.assertIs(Shelf(disk, 300, 9).write(120, record()), False)
        self.assertIs(Shelf(disk, 300, 9).write(121, record()), True)

    def test_as_the_model(self):
        for seed in range(150):
            source = random.Random(seed)
            most, keep, moment, records = source.choice([1, 20, 50, 90, 200]), source.randrange(1, 10), 0, []
            for k in range(source.randrange(25)):
                moment += source.choice([0, 1, 60, DAY // 3, DAY])
                records.append(record(moment, "w " * source.randrange(20), source.randrange(100), source.choice(["", "a.b"])))
            disk = written(records, most, keep)
            self.assertEqual(texts_of(disk), model_texts(records, most, keep))
            self.assertEqual(kept_rows(disk, keep), model_kept(records, most, keep))
            self.assert_as_full_as_can_be(disk, most, keep)

    def assert_as_full_as_can_be(self, disk, most, keep):
        names = ["log"] + ["log." + str(k) for k in range(1, keep + 1)]
        texts = [disk.text(name) for name in names if name in disk.files()]
        for newer, older in zip(texts, texts[1:]):
            first = newer.split("\n")[0] + "\n"
            is_another_day = int(first.split()[1]) // DAY != int(older.split()[1]) // DAY
            self.assertTrue(is_another_day or len(older) + len(first) > most)


class Limits(unittest.TestCase):
    """No error is told where a caller goes somewhat beyond the limits."""

    def test_beyond_the_limits(self):
        for one in (record(words="w" * 90), record(moment=10 ** 9), record(level=100), record(level=-1),
                    record(name="a.b.c.d.e.f.g"), record(name="abcdefghij")):
            disk = written([one, one, one], 150, 3)
            self.assertEqual(kept_rows(disk, 3), ((1, one), (2, one), (3, one)))

    def test_more_kept(self):
        disk = written([record()] * 15, 1, 10)
        self.assertEqual(texts_of(disk), model_texts([record()] * 15, 1, 10))
        self.assertEqual(kept_rows(disk, 10), model_kept([record()] * 15, 1, 10))

    def test_none_kept(self):
        self.assertEqual(kept_rows(written([record()] * 3, 1, 0), 0), ((3, record()),))


class MadeAnew(unittest.TestCase):
    def test_a_row_without_its_line_end_is_cut_away(self):
        row = row_of(3, record())
        for many in range(1, len(row) + 1):
            disk = disk_with((), log=lines(1, 2) + row[:many])
            self.assertEqual(kept_rows(disk, 3), ((1, record()), (2, record())))
            Shelf(disk, 100, 3)
            self.assertEqual(texts_of(disk), {"log": lines(1, 2)})

    def test_the_first_row_of_log(self):
        disk = disk_with((), log_1=lines(1, 2), log="3 60 wa")
        shelf = Shelf(disk, 35, 3)
        self.assertEqual(texts_of(disk), {"log": "", "log.1": lines(1, 2)})
        self.assertIs(shelf.write(2, record()), False)
        self.assertIs(shelf.write(3, record()), True)
        self.assertEqual(texts_of(disk), {"log": lines(3), "log.1": lines(1, 2)})

    def test_an_empty_log_is_not_turned(self):
        disk = disk_with((), log="1 6")
        shelf = Shelf(disk, 1, 3)
        self.assertIs(shelf.write(1, record(5 * DAY)), True)
        self.assertEqual(disk.files(), ("log",))

    def test_a_stop_while_it_is_cut(self):
        disk = disk_with((0, 0), log=lines(1) + "2 6")
        for k in range(2):
            with self.assertRaises(Stopped):
                Shelf(disk, 100, 3)
            self.assertEqual(disk.text("log"), lines(1) + "2 6")
            self.assertEqual(kept_rows(disk, 3), ((1, record()),))
        Shelf(disk, 100, 3)
        self.assertEqual(disk.text("log"), lines(1))

    def test_files_that_are_whole_stay_as_they_are(self):
        for texts in ({}, {"log": lines(1)}, {"log_1": lines(1)}, {"log": lines(2), "log_1": lines(1)},
                      {"log": lines(3), "log_1": lines(2), "log_2": lines(1)}, {"log_1": lines(2), "log_2": lines(1)}):
            disk = disk_with((0,), **texts)
            Shelf(disk, 100, 2)
            self.assertEqual(texts_of(disk), {name.replace("_", "."): text for name, text in texts.items()})

    def test_turning_is_done_to_its_end(self):
        full = {"log": lines(5), "log.1": lines(4), "log.2": lines(3), "log.3": lines(2)}
        turned = {"log.1": lines(5), "log.2": lines(4), "log.3": lines(3), "log.4": lines(2)}
        for moved in range(1, 5):
            texts = {}
            for at in range(4):
                name = "log." + str(at) if at else "log"
                texts["log_" + str(at + 1) if at >= 4 - moved else name.replace(".", "_")] = full[name]
            for keep in (4, 5, 9):
                disk = disk_with((), **texts)
                self.assertEqual(kept_rows(disk, keep), tuple((k, record()) for k in (2, 3, 4, 5)))
                Shelf(disk, 1, keep)
                self.assertEqual(texts_of(disk), turned)

    def test_turning_of_which_none_was_moved_waits_for_the_next_write(self):
        disk = disk_with((0,), log=lines(3), log_1=lines(2))
        Shelf(disk, 1, 2)
        self.assertEqual(texts_of(disk), {"log": lines(3), "log.1": lines(2)})

    def test_a_stop_while_turning_is_ended(self):
        start = {"log": lines(5), "log_1": lines(4), "log_3": lines(3), "log_4": lines(2)}
        turned = {"log.1": lines(5), "log.2": lines(4), "log.3": lines(3), "log.4": lines(2)}
        # Two files are still to be moved, a step each.
        plans = {(0,): 1, (1,): 1, (2,): 0, (0, 0): 2, (0, 1): 2, (1, 0): 2, (1, 1): 1, (0, 2): 1, (0, 0, 0, 1, 0): 5}
        for stops, many in plans.items():
            disk = disk_with(stops, **start)
            for k in range(many):
                with self.assertRaises(Stopped):
                    Shelf(disk, 1, 4)
                self.assertEqual(kept_rows(disk, 4), tuple((number, record()) for number in (2, 3, 4, 5)))
            Shelf(disk, 1, 4)
            self.assertEqual(texts_of(disk), turned)

    def test_a_stop_at_each_step_of_a_write(self):
        ahead, records = [record()] * 8, [record()] * 9
        for keep in (1, 2, 3, 9):
            before, behind = model_kept(ahead, 20, keep), model_kept(records, 20, keep)
            for done in range(200):
                disk = Disk((sum(len(lines(k)) for k in range(1, 9)) + self.turn_steps(7, keep) + done,))
                shelf = Shelf(written(ahead, 20, keep, disk), 20, keep)
                try:
                    shelf.write(9, record())
                    break
                except Stopped:
                    self.assertIn(kept_rows(disk, keep), (before, behind[:-1]))
                self.assertIs(Shelf(disk, 20, keep).write(9, record()), True)
                self.assertEqual(texts_of(disk), model_texts(records, 20, keep))
            self.assertEqual(done, self.turn_steps(8, keep) - self.turn_steps(7, keep) + len(lines(9)))

    def turn_steps(self, times, keep):
        """How many steps it takes to turn the files so often, from the first time on."""
        return sum(min(turned, keep - 1) + 1 + (turned >= keep) for turned in range(times))


class KeptRows(unittest.TestCase):
    def test_no_files(self):
        self.assertEqual(kept_rows(Disk(()), 3), ())
        self.assertIs(type(kept_rows(Disk(()), 3)), tuple)

    def test_from_the_oldest_file_on(self):
        disk = disk_with((), log=lines(4), log_1=lines(2, 3), log_2=lines(1))
        self.assertEqual(kept_rows(disk, 2), tuple((k, record()) for k in (1, 2, 3, 4)))

    def test_ten_files(self):
        disk = written([record()] * 30, 1, 9)
        self.assertEqual(kept_rows(disk, 9), tuple((k, record()) for k in range(21, 31)))

    def test_kinds(self):
        told = kept_rows(written([record()], 100, 3), 3)
        self.assertEqual([type(told), type(told[0]), type(told[0][0]), type(told[0][1])], [tuple, tuple, int, tuple])
        self.assertEqual([type(part) for part in told[0][1]], [int, int, str, str])

    def test_the_top_and_words_with_blanks(self):
        records = ((0, 0, "", ""), (1, 99, "", " "), (2, 11, "a.b.c.d.e.f", "  two  words  "), (3, 30, "*"[:0], "*"))
        self.assertEqual(kept_rows(written(records, 1000, 3), 3), tuple(enumerate(records, start=1)))

    def test_each_level(self):
        records = tuple(record(level=level) for level in range(100))
        self.assertEqual(kept_rows(written(records, 10000, 1), 1), tuple(enumerate(records, start=1)))

    def test_looks_change_nothing(self):
        disk = disk_with((0,), log=lines(4) + "5 6", log_2=lines(2, 3), log_3=lines(1))
        texts = texts_of(disk)
        for k in range(3):
            self.assertEqual(kept_rows(disk, 3), tuple((number, record()) for number in (1, 2, 3, 4)))
        self.assertEqual(texts_of(disk), texts)
        with self.assertRaises(Stopped):
            disk.drop("log")

    def test_an_empty_log(self):
        disk = disk_with((), log_1=lines(1, 2), log="3 6")
        Shelf(disk, 35, 3)
        self.assertEqual(kept_rows(disk, 3), ((1, record()), (2, record())))

    def test_the_models_own_text(self):
        self.assertEqual(model_text([(1, record()), (2, record())]), "1 60 warn a x\n2 60 warn a x\n")


if __name__ == "__main__":
    unittest.main()
