"""Points 0.1 to 0.3 and the interface: what holds over the whole program."""

import importlib
import inspect
import unittest

from loghall import errors
from loghall.disks import Disk
from loghall.folds import long, merged, short
from loghall.forms import form_text, laid, read_form
from loghall.gates import passes, shown
from loghall.gatetext import read_gate
from loghall.hall import Hall
from loghall.holds import Holder, Limit
from loghall.levels import level_word, read_level
from loghall.names import above, is_name, is_under
from loghall.rows import read_row, row_of
from loghall.sending import delivered, looked_up, send_once
from loghall.shelves import Shelf, kept_rows

FUNCTIONS = {
    "names": {"is_name": ["thing"], "is_under": ["name", "other"], "above": ["name"]},
    "levels": {"level_word": ["level"], "read_level": ["text"]},
    "rows": {"row_of": ["number", "record"], "read_row": ["text"]},
    "gates": {"passes": ["gate", "record"], "shown": ["gate"]},
    "gatetext": {"read_gate": ["text"]},
    "forms": {"form_text": ["parts"], "read_form": ["text"], "laid": ["form", "record"]},
    "folds": {"short": ["texts"], "long": ["rows"], "merged": ["logs"]},
    "shelves": {"kept_rows": ["disk", "keep"]},
    "sending": {
        "send_once": ["disk", "most", "keep", "records"],
        "delivered": ["disk", "most", "keep", "records"],
        "looked_up": ["disk", "keep", "gate"]},
}

CLASSES = {
    ("hall", "Hall"): {
        "__init__": [], "set_level": ["name", "level"], "unset_level": ["name"], "level_of": ["name"],
        "quiet": ["level"], "is_told": ["name", "level"], "add_writer": ["name", "least", "gate", "form"],
        "take_away": ["number"], "close": ["name", "closed"], "tell": ["record"], "rows": ["number"]},
    ("holds", "Holder"): {"__init__": ["many", "level"], "put": ["record"], "held": [], "let_go": []},
    ("holds", "Limit"): {"__init__": ["many", "span"], "take": ["moment", "key"]},
    ("disks", "Disk"): {
        "__init__": ["stops"], "put_behind": ["name", "text"], "rename": ["name", "goal"], "cut": ["name", "many"],
        "drop": ["name"], "text": ["name"], "files": []},
    ("shelves", "Shelf"): {"__init__": ["disk", "most", "keep"], "write": ["number", "record"]},
}

RECORD = (86400, 37, "web.db", "slow query")
RECORDS = tuple((k * 40000, k * 9, ["", "web", "web.db"][k % 3], "words " + str(k)) for k in range(9))


def module(name):
    return importlib.import_module("loghall." + name)


def arguments(function):
    return list(inspect.signature(function).parameters)


class Interface(unittest.TestCase):
    def test_functions(self):
        for where, functions in FUNCTIONS.items():
            for name, names in functions.items():
                with self.subTest(name=name):
                    function = getattr(module(where), name)
                    self.assertEqual(arguments(function), names)
                    self.assertEqual(function.__module__, "loghall." + where)

    def test_classes(self):
        for (where, name), methods in CLASSES.items():
            own = vars(getattr(module(where), name))
            for method, names in methods.items():
                with self.subTest(name=name, method=method):
                    self.assertIn(method, own)
                    self.assertEqual(arguments(own[method])[1:], names)


class Refusals(unittest.TestCase):
    def refusals(self):
        """Each refusal that the document tells, with its class."""
        hall, limit = Hall(), Limit(1, 5)
        limit.take(9, "a")
        stopping = Disk((1, 0, 0, 0))
        return [
            ("BadLevel", lambda: read_level("none")),
            ("BadRow", lambda: read_row("1 2 none a b")),
            ("BadRow", lambda: long(("+1",))),
            ("BadGate", lambda: read_gate("")),
            ("BadGate", lambda: hall.add_writer("", 0, "", "{")),
            ("BadGate", lambda: looked_up(Disk(()), 1, "")),
            ("BadForm", lambda: read_form("{")),
            ("BadForm", lambda: laid("{", RECORD)),
            ("BadForm", lambda: hall.add_writer("", 0, "yes", "{")),
            ("NoWriter", lambda: hall.take_away(1)),
            ("NoWriter", lambda: hall.rows(1)),
            ("Falling", lambda: limit.take(8, "a")),
            ("NoFile", lambda: Disk(()).text("a")),
            ("NoFile", lambda: Disk(()).rename("a", "b")),
            ("NoFile", lambda: Disk(()).cut("a", 0)),
            ("NoFile", lambda: Disk(()).drop("a")),
            ("Stopped", lambda: stopping.put_behind("log", "ab")),
            ("Stopped", lambda: stopping.drop("log")),
            ("Stopped", lambda: Shelf(stopping, 1, 1)),
            ("Stopped", lambda: Shelf(Disk((0,)), 1, 1).write(1, RECORD)),
        ]

    def test_each_is_told_by_its_own_class(self):
        for name, deed in self.refusals():
            with self.subTest(name=name):
                with self.assertRaises(errors.LogError) as caught:
                    deed()
                self.assertIs(type(caught.exception), getattr(errors, name))

    def test_all_classes_of_refusals_come_up(self):
        names = {name for name, deed in self.refusals()}
        found = {name for name, thing in vars(errors).items() if inspect.isclass(thing) and name != "LogError"}
        self.assertEqual(names, found)
        for name in found:
            self.assertEqual(getattr(errors, name).__bases__, (errors.LogError,))


class AskedAgain(unittest.TestCase):
    def test_the_same_is_told(self):
        gate, parts = ("or", ("not", ("level", 40)), ("has", "x")), (("text", "{"), ("field", "name", "<", 9))
        logs = (RECORDS, RECORDS[2:], ())
        for deed in (
                lambda: is_name("a.b"), lambda: above("a.b"), lambda: is_under("a.b", "a"), lambda: level_word(37),
                lambda: read_level("warn+7"), lambda: row_of(7, RECORD), lambda: read_row(row_of(7, RECORD)),
                lambda: passes(gate, RECORD), lambda: shown(gate), lambda: read_gate(shown(gate)),
                lambda: form_text(parts), lambda: read_form(form_text(parts)), lambda: laid(form_text(parts), RECORD),
                lambda: short(("a", "a", "b")), lambda: long(("=a", "+1", "=b")), lambda: merged(logs)):
            told = deed()
            self.assertEqual([deed(), deed()], [told, told])
            self.assertIs(type(deed()), type(told))

    def test_new_things_begin_anew(self):
        for k in range(2):
            hall, holder, limit, disk = Hall(), Holder(2, 99), Limit(1, 5), Disk((20, 0))
            self.assertEqual([hall.level_of(""), hall.add_writer("", 0, "yes", "{words}")], [30, 1])
            hall.set_level("", 5)
            self.assertEqual([holder.put(RECORD), holder.held()], [(), (RECORD,)])
            self.assertEqual([limit.take(3, "a"), limit.take(4, "a")], [True, False])
            self.assertEqual([delivered(disk, 40, 2, RECORDS), delivered(disk, 40, 2, RECORDS)], [2, 0])


class NoLists(unittest.TestCase):
    def assert_plain(self, thing):
        self.assertIn(type(thing), (tuple, str, int, bool, type(None)))
        if isinstance(thing, tuple):
            for part in thing:
                self.assert_plain(part)

    def test_all_that_is_told(self):
        hall, holder, limit, disk = Hall(), Holder(2, 99), Limit(1, 5), Disk((30,))
        shelf = Shelf(Disk(()), 40, 2)
        for told in (
                hall.set_level("a", 0), hall.unset_level("a"), hall.level_of("a"), hall.quiet(0), hall.is_told("a", 3),
                hall.add_writer("", 0, "yes", "{words}"), hall.close("a", False), hall.tell(RECORD), hall.rows(1),
                hall.tell((0, 0, "", "")), hall.take_away(1), holder.put(RECORD), holder.held(), holder.put(RECORD),
                holder.let_go(), limit.take(0, "a"), limit.take(0, "a"), shelf.write(1, RECORD), shelf.write(1, RECORD),
                send_once(disk, 40, 2, RECORDS), delivered(disk, 40, 2, RECORDS), kept_rows(disk, 2),
                looked_up(disk, 2, "yes"), disk.files(), disk.text("log"), disk.put_behind("log", "x"),
                disk.cut("log", 1), disk.rename("log", "a"), disk.drop("a"), above("a.b"), read_row(row_of(1, RECORD)),
                read_gate("not level 5"), read_form("a{name}"), short(("a",)), long(("=a",)), merged((RECORDS,))):
            self.assert_plain(told)


class Together(unittest.TestCase):
    def test_from_the_hall_to_the_files(self):
        hall = Hall()
        hall.set_level("web", 0)
        number = hall.add_writer("web", 10, "not has 'noise'", "{moment} {level} {name} {words}")
        records = tuple((k * 1000, k % 60, "web.db", "noise" if k % 7 == 0 else "work") for k in range(200))
        taken = tuple(record for record in records if hall.tell(record) == (number,))
        self.assertEqual(taken, tuple(one for one in records if one[1] >= 10 and one[3] == "work"))
        rows = [str(k) + " " + row for k, row in enumerate(hall.rows(number), start=1)]
        disk = Disk((100, 0, 700, 3, 50))
        self.assertEqual(delivered(disk, 400, 9, taken), 5)
        text = "".join(disk.text(name) for name in ["log." + str(k) for k in range(9, 0, -1)] + ["log"])
        self.assertEqual(text.split("\n")[:-1], rows[-text.count("\n"):])
        self.assertEqual(looked_up(disk, 9, "yes"), taken[-text.count("\n"):])

    def test_held_and_limited(self):
        holder, limit = Holder(4, 40), Limit(2, 100000)
        let = []
        for record in RECORDS:
            let += [one for one in holder.put(record) if limit.take(one[0], one[2])]
        let += [one for one in holder.let_go() if limit.take(one[0], one[2])]
        self.assertEqual(tuple(let), RECORDS)
        self.assertEqual(merged((RECORDS[::2], RECORDS[1::2])), RECORDS)

    def test_what_is_handed_in_is_not_changed(self):
        records, stops = tuple(RECORDS), (5, 0, 30)
        disk = Disk(stops)
        delivered(disk, 40, 2, records)
        merged((records, records))
        self.assertEqual((records, stops), (RECORDS, (5, 0, 30)))


if __name__ == "__main__":
    unittest.main()
