"""Points 6.1 and 0.3: files, deeds done in steps, and stops."""

import unittest

from loghall.disks import Disk
from loghall.errors import LogError, NoFile, Stopped


def filled(stops, **texts):
    """A disk with files, whose stops count from there on."""
    ahead = sum(len(text) for text in texts.values())
    disk = Disk((stops[0] + ahead,) + stops[1:] if stops else ())
    for name, text in texts.items():
        disk.put_behind(name, text)
    return disk


def all_of(disk):
    return {name: disk.text(name) for name in disk.files()}


def steps_left(disk):
    """How many steps a disk does till it stops."""
    for many in range(1000):
        try:
            disk.put_behind("z", "z")
        except Stopped:
            return many


class WithoutStops(unittest.TestCase):
    def test_a_new_disk(self):
        disk = Disk(())
        self.assertEqual(disk.files(), ())
        self.assertIs(type(disk.files()), tuple)

    def test_put_behind(self):
        disk = Disk(())
        self.assertIsNone(disk.put_behind("a", "xy"))
        self.assertEqual(all_of(disk), {"a": "xy"})
        disk.put_behind("a", "z")
        disk.put_behind("b", " ")
        self.assertEqual(all_of(disk), {"a": "xyz", "b": " "})

    def test_line_ends(self):
        disk = Disk(())
        disk.put_behind("a", "x\n")
        disk.put_behind("a", "\n")
        self.assertEqual(disk.text("a"), "x\n\n")

    def test_an_empty_text(self):
        disk = Disk(())
        self.assertIsNone(disk.put_behind("a", ""))
        self.assertEqual(disk.files(), ())
        with self.assertRaises(NoFile):
            disk.text("a")
        disk.put_behind("a", "x")
        disk.put_behind("a", "")
        self.assertEqual(all_of(disk), {"a": "x"})

    def test_rename(self):
        disk = filled((), a="x", b="y")
        self.assertIsNone(disk.rename("a", "c"))
        self.assertEqual(all_of(disk), {"b": "y", "c": "x"})

    def test_rename_to_one_that_is_there(self):
        disk = filled((), a="x", b="y", c="z")
        disk.rename("a", "b")
        self.assertEqual(all_of(disk), {"b": "x", "c": "z"})

    def test_rename_to_the_own_name(self):
        disk = filled((), a="x", b="y")
        self.assertIsNone(disk.rename("a", "a"))
        self.assertEqual(all_of(disk), {"a": "x", "b": "y"})

    def test_cut(self):
        disk = filled((), a="xyz", b="y")
        self.assertIsNone(disk.cut("a", 2))
        self.assertEqual(all_of(disk), {"a": "xy", "b": "y"})
        disk.cut("a", 2)
        disk.cut("a", 5)
        self.assertEqual(disk.text("a"), "xy")
        disk.cut("a", 0)
        self.assertEqual(all_of(disk), {"a": "", "b": "y"})
        disk.put_behind("a", "new")
        self.assertEqual(disk.text("a"), "new")

    def test_drop(self):
        disk = filled((), a="x", b="y")
        self.assertIsNone(disk.drop("a"))
        self.assertEqual(all_of(disk), {"b": "y"})
        disk.put_behind("a", "new")
        self.assertEqual(disk.text("a"), "new")

    def test_an_empty_file_is_one(self):
        disk = filled((), a="x")
        disk.cut("a", 0)
        disk.rename("a", "b")
        self.assertEqual(all_of(disk), {"b": ""})
        disk.drop("b")
        self.assertEqual(disk.files(), ())

    def test_files_rising(self):
        disk = Disk(())
        for name in ("log.2", "log", "b", "log.10", "~", " ", "a" * 20, "log.1", "B"):
            disk.put_behind(name, "x")
        self.assertEqual(disk.files(), (" ", "B", "a" * 20, "b", "log", "log.1", "log.10", "log.2", "~"))
        disk.rename("~", "A")
        disk.drop("b")
        self.assertEqual(disk.files(), (" ", "A", "B", "a" * 20, "log", "log.1", "log.10", "log.2"))

    def test_asked_again(self):
        disk = filled((), b="x", a="y")
        for k in range(3):
            self.assertEqual(disk.files(), ("a", "b"))
            self.assertEqual(disk.text("b"), "x")

    def test_two_beside_one_another(self):
        first, second = Disk(()), Disk(())
        first.put_behind("a", "x")
        self.assertEqual(second.files(), ())


class NoSuchFile(unittest.TestCase):
    def assert_no_file(self, disk):
        for name in ("b", "", "A", "a "):
            for deed in (lambda: disk.rename(name, "c"), lambda: disk.rename(name, name), lambda: disk.rename(name, "a"),
                         lambda: disk.cut(name, 0), lambda: disk.drop(name), lambda: disk.text(name)):
                with self.assertRaises(NoFile) as caught:
                    deed()
                self.assertIsInstance(caught.exception, LogError)

    def test_no_file(self):
        disk = filled((), a="x")
        self.assert_no_file(disk)
        self.assertEqual(all_of(disk), {"a": "x"})

    def test_of_names_that_were(self):
        disk = filled((), b="x")
        disk.rename("b", "a")
        self.assert_no_file(disk)
        disk = filled((), a="x", b="x")
        disk.drop("b")
        self.assert_no_file(disk)

    def test_ahead_of_all_steps(self):
        disk = filled((0, 0), a="x")
        self.assert_no_file(disk)
        for k in range(2):
            with self.assertRaises(Stopped):
                disk.drop("a")
        disk.drop("a")

    def test_no_step_is_counted(self):
        disk = filled((3,), a="x")
        self.assert_no_file(disk)
        self.assertEqual(steps_left(disk), 3)


class Stops(unittest.TestCase):
    def assert_stops(self, deed):
        with self.assertRaises(Stopped) as caught:
            deed()
        self.assertIsInstance(caught.exception, LogError)

    def test_put_behind_at_each_sign(self):
        for done in range(5):
            disk = Disk((done,))
            self.assert_stops(lambda: disk.put_behind("a", "vwxyz"))
            self.assertEqual(all_of(disk), {"a": "vwxyz"[:done]} if done else {})
            disk.put_behind("a", "vwxyz")
            self.assertEqual(disk.text("a"), "vwxyz"[:done] + "vwxyz")

    def test_put_behind_that_ends_just_there(self):
        disk = Disk((5,))
        disk.put_behind("a", "vwxyz")
        self.assert_stops(lambda: disk.put_behind("b", "u"))
        self.assertEqual(all_of(disk), {"a": "vwxyz"})

    def test_put_behind_a_file_that_is_there(self):
        for done in range(3):
            disk = filled((done,), a="uv", b="k")
            self.assert_stops(lambda: disk.put_behind("a", "xyz"))
            self.assertEqual(all_of(disk), {"a": "uv" + "xyz"[:done], "b": "k"})

    def test_an_empty_text_takes_no_step(self):
        disk = Disk((0,))
        for k in range(3):
            disk.put_behind("a", "")
        self.assertEqual(disk.files(), ())
        self.assert_stops(lambda: disk.put_behind("a", "x"))
        self.assertEqual(disk.files(), ())

    def test_the_other_deeds_at_their_step(self):
        for deed in (lambda disk: disk.rename("a", "c"), lambda disk: disk.rename("a", "b"),
                     lambda disk: disk.rename("a", "a"), lambda disk: disk.cut("a", 1), lambda disk: disk.cut("a", 2),
                     lambda disk: disk.drop("a")):
            disk = filled((0,), a="xy", b="z")
            self.assert_stops(lambda: deed(disk))
            self.assertEqual(all_of(disk), {"a": "xy", "b": "z"})
            without = filled((), a="xy", b="z")
            deed(without)
            deed(disk)
            self.assertEqual(all_of(disk), all_of(without))

    def test_each_of_the_other_deeds_is_one_step(self):
        for deed in (lambda disk: disk.rename("a", "c"), lambda disk: disk.rename("a", "b"),
                     lambda disk: disk.rename("a", "a"), lambda disk: disk.cut("a", 0), lambda disk: disk.cut("a", 9),
                     lambda disk: disk.drop("a")):
            disk = filled((4,), a="xy", b="z")
            deed(disk)
            self.assertEqual(steps_left(disk), 3)

    def test_looks_are_no_steps(self):
        disk = filled((2,), a="x")
        for k in range(5):
            disk.text("a")
            disk.files()
        self.assertEqual(steps_left(disk), 2)

    def test_several_stops(self):
        disk = Disk((2, 0, 0, 3, 1))
        texts = []
        for k in range(5):
            self.assert_stops(lambda: disk.put_behind("a", "vwxyz"))
            texts.append(disk.text("a"))
        self.assertEqual(texts, ["vw", "vw", "vw", "vwvwx", "vwvwxv"])
        disk.put_behind("a", "!" * 300)
        self.assertEqual(disk.text("a"), "vwvwxv" + "!" * 300)

    def test_several_deeds_till_a_stop(self):
        disk = Disk((6, 2))
        disk.put_behind("a", "xyz")
        disk.rename("a", "b")
        disk.cut("b", 2)
        disk.put_behind("c", "u")
        self.assert_stops(lambda: disk.drop("b"))
        self.assertEqual(all_of(disk), {"b": "xy", "c": "u"})
        disk.drop("b")
        self.assert_stops(lambda: disk.put_behind("c", "vw"))
        self.assertEqual(all_of(disk), {"c": "uv"})
        disk.put_behind("c", "w")
        self.assertEqual(all_of(disk), {"c": "uvw"})

    def test_stops_no_more_behind_the_last(self):
        disk = Disk((0,))
        self.assert_stops(lambda: disk.put_behind("a", "x"))
        for k in range(300):
            disk.put_behind("a", "x")
        self.assertEqual(disk.text("a"), "x" * 300)

    def test_disks_of_one_plan(self):
        stops = (1, 0)
        for k in range(2):
            disk = Disk(stops)
            self.assert_stops(lambda: disk.put_behind("a", "xy"))
            self.assert_stops(lambda: disk.put_behind("a", "xy"))
            disk.put_behind("a", "xy")
        self.assertEqual(stops, (1, 0))


if __name__ == "__main__":
    unittest.main()
