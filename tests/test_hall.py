"""Points 0.2 (b), 0.3, 4.1 and 4.2: levels, writers, and which of them take a record."""

import random
import unittest

from loghall.errors import BadForm, BadGate, LogError, NoWriter
from loghall.forms import laid
from loghall.gates import passes
from loghall.gatetext import read_gate
from loghall.hall import Hall
from loghall.names import above, is_under

ALL = "yes"
PLAIN = "{words}"
NAMES = ["", "a", "b", "a.a", "a.b", "a.b.c", "a.b.c.d", "ab"]


def open_hall():
    """A hall in which all levels are told."""
    hall = Hall()
    hall.set_level("", 0)
    return hall


def record(level=30, name="a.b", words="some words", moment=60):
    return (moment, level, name, words)


class Levels(unittest.TestCase):
    def test_a_new_hall(self):
        hall = Hall()
        for name in NAMES + ["a.b.c.d.e.f"]:
            self.assertEqual(hall.level_of(name), 30)
            self.assertIs(hall.is_told(name, 30), True)
            self.assertIs(hall.is_told(name, 31), True)
            self.assertIs(hall.is_told(name, 29), False)

    def test_set_on_a_name(self):
        hall = Hall()
        self.assertIsNone(hall.set_level("a.b", 10))
        levels = {"": 30, "a": 30, "a.b": 10, "a.b.c": 10, "a.b.c.d.e.f": 10, "a.bc": 30, "b": 30, "b.a.b": 30}
        for name, level in levels.items():
            self.assertEqual(hall.level_of(name), level, name)
            self.assertIs(type(hall.level_of(name)), int)

    def test_set_between(self):
        hall = Hall()
        hall.set_level("a.b.c.d", 50)
        hall.set_level("a", 10)
        self.assertEqual([hall.level_of(name) for name in ("a.b.c.d", "a.b.c", "a.b", "a", "")], [50, 10, 10, 10, 30])
        hall.set_level("a.b", 70)
        self.assertEqual([hall.level_of(name) for name in ("a.b.c.d", "a.b.c", "a.b", "a", "")], [50, 70, 70, 10, 30])

    def test_set_on_the_top(self):
        hall = Hall()
        hall.set_level("a", 99)
        hall.set_level("", 0)
        self.assertEqual([hall.level_of(name) for name in ("", "b", "a", "a.b")], [0, 0, 99, 99])

    def test_level_0_is_a_level_of_its_own(self):
        hall = Hall()
        hall.set_level("a", 0)
        self.assertEqual(hall.level_of("a"), 0)
        self.assertEqual(hall.level_of("a.b"), 0)

    def test_set_again(self):
        hall = Hall()
        for level in (10, 99, 0, 30, 5):
            hall.set_level("a", level)
            self.assertEqual(hall.level_of("a"), level)

    def test_unset(self):
        hall = Hall()
        hall.set_level("a", 10)
        hall.set_level("a.b", 20)
        self.assertIsNone(hall.unset_level("a.b"))
        self.assertEqual(hall.level_of("a.b"), 10)
        hall.unset_level("a")
        self.assertEqual([hall.level_of(name) for name in ("a.b", "a", "")], [30, 30, 30])

    def test_unset_between(self):
        hall = Hall()
        for name, level in (("a", 10), ("a.b", 20), ("a.b.c", 40)):
            hall.set_level(name, level)
        hall.unset_level("a.b")
        self.assertEqual([hall.level_of(name) for name in ("a.b.c", "a.b", "a")], [40, 10, 10])

    def test_unset_on_the_top(self):
        hall = Hall()
        hall.set_level("", 5)
        self.assertIsNone(hall.unset_level(""))
        self.assertEqual(hall.level_of(""), 30)
        self.assertEqual(hall.level_of("a.b"), 30)
        hall.unset_level("")
        self.assertEqual(hall.level_of(""), 30)

    def test_unset_where_none_was_set(self):
        hall = Hall()
        hall.set_level("a", 10)
        for name in ("a.b", "b", "a.b.c.d"):
            self.assertIsNone(hall.unset_level(name))
        self.assertEqual([hall.level_of(name) for name in ("a.b", "b", "a")], [10, 30, 10])

    def test_asking_changes_nothing(self):
        hall = Hall()
        hall.set_level("a", 10)
        for k in range(3):
            self.assertEqual(hall.level_of("a.b.c"), 10)
            self.assertIs(hall.is_told("a.b.c", 9), False)
        hall.set_level("a", 11)
        self.assertEqual(hall.level_of("a.b.c"), 11)

    def test_is_told_just_at_above_and_below_the_names_level(self):
        hall = Hall()
        for level in (1, 30, 98):
            hall.set_level("a", level)
            self.assertIs(hall.is_told("a", level), True)
            self.assertIs(hall.is_told("a.b", level + 1), True)
            self.assertIs(hall.is_told("a.b", level - 1), False)

    def test_is_told_just_at_above_and_below_quiet(self):
        hall = open_hall()
        for level in (1, 30, 98):
            self.assertIsNone(hall.quiet(level))
            self.assertIs(hall.is_told("a", level), True)
            self.assertIs(hall.is_told("a", level + 1), True)
            self.assertIs(hall.is_told("a", level - 1), False)

    def test_quiet_up_and_down(self):
        hall = open_hall()
        self.assertIs(hall.is_told("a", 0), True)
        hall.quiet(60)
        self.assertEqual([hall.is_told("a", level) for level in (59, 60)], [False, True])
        hall.quiet(20)
        self.assertEqual([hall.is_told("a", level) for level in (19, 20)], [False, True])
        hall.quiet(0)
        self.assertIs(hall.is_told("a", 0), True)

    def test_quiet_is_no_level_of_a_name(self):
        hall = Hall()
        hall.quiet(70)
        self.assertEqual(hall.level_of(""), 30)
        self.assertEqual(hall.level_of("a"), 30)

    def test_neither_below_quiet_nor_the_level(self):
        for own in range(0, 100, 9):
            for quiet in range(0, 100, 9):
                hall = Hall()
                hall.set_level("a", own)
                hall.quiet(quiet)
                for level in range(100):
                    self.assertIs(hall.is_told("a.b", level), level >= own and level >= quiet)

    def test_two_halls_beside_one_another(self):
        first, second = Hall(), Hall()
        first.set_level("a", 10)
        first.set_level("", 20)
        first.quiet(15)
        self.assertEqual([second.level_of("a"), second.level_of("")], [30, 30])
        second.set_level("a", 5)
        self.assertIs(second.is_told("a", 5), True)
        self.assertIs(first.is_told("a", 14), False)
        third = Hall()
        self.assertEqual(third.level_of(""), 30)
        self.assertIs(third.is_told("", 30), True)


class Writers(unittest.TestCase):
    def test_numbers(self):
        hall = Hall()
        self.assertEqual([hall.add_writer(name, 0, ALL, PLAIN) for name in NAMES], list(range(1, len(NAMES) + 1)))
        self.assertIs(type(hall.add_writer("", 0, ALL, PLAIN)), int)

    def test_numbers_behind_one_that_was_refused(self):
        hall = Hall()
        self.assertEqual(hall.add_writer("a", 0, ALL, PLAIN), 1)
        with self.assertRaises(BadGate):
            hall.add_writer("a", 0, "maybe", PLAIN)
        with self.assertRaises(BadForm):
            hall.add_writer("a", 0, ALL, "{")
        self.assertEqual(hall.add_writer("a", 0, ALL, PLAIN), 2)

    def test_numbers_behind_one_that_was_taken_away(self):
        hall = Hall()
        for number in (1, 2, 3):
            self.assertEqual(hall.add_writer("a", 0, ALL, PLAIN), number)
        self.assertIsNone(hall.take_away(3))
        self.assertEqual(hall.add_writer("a", 0, ALL, PLAIN), 4)
        for number in (1, 2, 4):
            hall.take_away(number)
        self.assertEqual(hall.add_writer("a", 0, ALL, PLAIN), 5)

    def test_the_gate_is_refused_first(self):
        for gate, form, at in (("yes no", "{", 4), ("", "}", 0), ("yes and", "{x}", 7), ("level 100", "a}", 6)):
            with self.assertRaises(LogError) as caught:
                Hall().add_writer("a", 0, gate, form)
            self.assertIs(type(caught.exception), BadGate)
            self.assertEqual(caught.exception.at, at)

    def test_the_form_is_refused(self):
        for form, at in (("{", 0), ("ab}", 2), ("{level} {words<41}", 8)):
            with self.assertRaises(LogError) as caught:
                Hall().add_writer("a", 0, ALL, form)
            self.assertIs(type(caught.exception), BadForm)
            self.assertEqual(caught.exception.at, at)

    def test_nothing_is_changed_by_a_refusal(self):
        hall = open_hall()
        hall.add_writer("a", 0, ALL, PLAIN)
        for gate, form in (("maybe", PLAIN), (ALL, "{"), ("maybe", "{")):
            with self.assertRaises(LogError):
                hall.add_writer("a", 0, gate, form)
        self.assertEqual(hall.tell(record(name="a")), (1,))
        for number in (2, 3, 4):
            with self.assertRaises(NoWriter):
                hall.rows(number)

    def test_no_writer(self):
        hall = Hall()
        for number in (0, 1, 2, -1, 999):
            with self.assertRaises(NoWriter):
                hall.take_away(number)
            with self.assertRaises(NoWriter):
                hall.rows(number)
        hall.add_writer("", 0, ALL, PLAIN)
        self.assertEqual(hall.rows(1), ())
        for number in (0, 2, -1):
            with self.assertRaises(NoWriter):
                hall.take_away(number)
            with self.assertRaises(NoWriter):
                hall.rows(number)

    def test_no_writer_that_is_taken_away(self):
        hall = open_hall()
        hall.add_writer("", 0, ALL, PLAIN)
        hall.add_writer("", 0, ALL, PLAIN)
        hall.tell(record())
        hall.take_away(1)
        for k in range(2):
            with self.assertRaises(NoWriter):
                hall.rows(1)
            with self.assertRaises(NoWriter):
                hall.take_away(1)
        self.assertEqual(hall.rows(2), ("some words",))
        hall.add_writer("", 0, ALL, PLAIN)
        with self.assertRaises(NoWriter):
            hall.rows(1)

    def test_two_halls_beside_one_another(self):
        first, second = open_hall(), open_hall()
        self.assertEqual([first.add_writer("", 0, ALL, PLAIN), first.add_writer("", 0, ALL, PLAIN)], [1, 2])
        self.assertEqual(second.add_writer("", 0, ALL, PLAIN), 1)
        first.close("a", True)
        self.assertEqual(first.tell(record()), ())
        self.assertEqual(second.tell(record()), (1,))
        self.assertEqual(first.rows(1), ())


class Tell(unittest.TestCase):
    def test_no_writers(self):
        self.assertEqual(open_hall().tell(record()), ())

    def test_kinds(self):
        hall = open_hall()
        hall.add_writer("", 0, ALL, PLAIN)
        self.assertIs(type(hall.tell(record())), tuple)
        self.assertIs(type(hall.tell(record())[0]), int)
        self.assertIs(type(hall.rows(1)), tuple)
        self.assertIs(type(hall.rows(1)[0]), str)

    def test_just_those_on_its_way_up(self):
        hall = open_hall()
        numbers = {name: hall.add_writer(name, 0, ALL, PLAIN) for name in NAMES}
        for name in NAMES + ["c", "a.b.x", "b.a"]:
            expected = tuple(numbers[place] for place in (name,) + above(name) if place in numbers)
            self.assertEqual(hall.tell(record(name=name)), expected)
            self.assertEqual(sorted(expected), sorted(numbers[one] for one in NAMES if is_under(name, one)))

    def test_the_nearest_name_first_and_there_by_numbers(self):
        hall = open_hall()
        for name in ("", "a.b", "a", "", "a.b", "a", "b", "a.b.c"):
            hall.add_writer(name, 0, ALL, PLAIN)
        self.assertEqual(hall.tell(record(name="a.b")), (2, 5, 3, 6, 1, 4))
        self.assertEqual(hall.tell(record(name="a.b.c")), (8, 2, 5, 3, 6, 1, 4))
        self.assertEqual(hall.tell(record(name="")), (1, 4))
        hall.take_away(2)
        hall.take_away(1)
        hall.add_writer("a.b", 0, ALL, PLAIN)
        self.assertEqual(hall.tell(record(name="a.b")), (5, 9, 3, 6, 4))

    def test_least(self):
        hall = open_hall()
        for least in (29, 30, 31, 0, 99):
            hall.add_writer("a", least, ALL, PLAIN)
        self.assertEqual(hall.tell(record(level=30)), (1, 2, 4))
        self.assertEqual(hall.tell(record(level=29)), (1, 4))
        self.assertEqual(hall.tell(record(level=28)), (4,))
        self.assertEqual(hall.tell(record(level=0)), (4,))
        self.assertEqual(hall.tell(record(level=98)), (1, 2, 3, 4))
        self.assertEqual(hall.tell(record(level=99)), (1, 2, 3, 4, 5))

    def test_gates(self):
        hall = open_hall()
        for gate in ("yes", "no", "level 40", "under a.b", "has 'slow'", "not has 'slow'", "level 40 and under a.b"):
            hall.add_writer("", 0, gate, PLAIN)
        self.assertEqual(hall.tell(record(level=40, name="a.b.c", words="so slow")), (1, 3, 4, 5, 7))
        self.assertEqual(hall.tell(record(level=39, name="a", words="fast")), (1, 6))
        self.assertEqual(hall.rows(1), ("so slow", "fast"))
        self.assertEqual(hall.rows(2), ())
        self.assertEqual(hall.rows(6), ("fast",))

    def test_a_gate_stops_just_its_own_writer(self):
        hall = open_hall()
        hall.add_writer("a.b", 0, "no", PLAIN)
        hall.add_writer("a.b", 99, ALL, PLAIN)
        hall.add_writer("a", 0, ALL, PLAIN)
        self.assertEqual(hall.tell(record()), (3,))

    def test_below_the_level_of_its_name(self):
        hall = Hall()
        hall.add_writer("a", 0, ALL, PLAIN)
        self.assertEqual(hall.tell(record(level=29, name="a")), ())
        self.assertEqual(hall.tell(record(level=30, name="a")), (1,))
        self.assertEqual(len(hall.rows(1)), 1)

    def test_the_levels_above_count_for_nothing(self):
        hall = Hall()
        for name in ("a.b", "a", ""):
            hall.add_writer(name, 0, ALL, PLAIN)
        hall.set_level("a.b", 0)
        hall.set_level("a", 99)
        self.assertEqual(hall.tell(record(level=5, name="a.b")), (1, 2, 3))
        self.assertEqual(hall.tell(record(level=98, name="a")), ())
        self.assertEqual(hall.tell(record(level=29, name="")), ())

    def test_quiet(self):
        hall = open_hall()
        hall.add_writer("", 0, ALL, PLAIN)
        hall.quiet(50)
        self.assertEqual(hall.tell(record(level=49)), ())
        self.assertEqual(hall.tell(record(level=50)), (1,))
        hall.quiet(0)
        self.assertEqual(hall.tell(record(level=49)), (1,))
        self.assertEqual(len(hall.rows(1)), 2)

    def test_closed(self):
        hall = open_hall()
        for name in ("", "a", "a.b", "a.b.c"):
            hall.add_writer(name, 0, ALL, PLAIN)
        self.assertIsNone(hall.close("a.b", True))
        self.assertEqual(hall.tell(record(name="a.b.c")), (4, 3))
        self.assertEqual(hall.tell(record(name="a.b")), (3,))
        self.assertEqual(hall.tell(record(name="a")), (2, 1))
        self.assertEqual(hall.tell(record(name="")), (1,))

    def test_opened_again(self):
        hall = open_hall()
        for name in ("", "a", "a.b"):
            hall.add_writer(name, 0, ALL, PLAIN)
        hall.close("a", True)
        hall.close("a", True)
        self.assertEqual(hall.tell(record(name="a.b")), (3, 2))
        self.assertIsNone(hall.close("a", False))
        self.assertEqual(hall.tell(record(name="a.b")), (3, 2, 1))
        hall.close("a", False)
        self.assertEqual(hall.tell(record(name="a.b")), (3, 2, 1))
        hall.close("a.b", False)
        self.assertEqual(hall.tell(record(name="a.b")), (3, 2, 1))

    def test_closed_names_without_writers(self):
        hall = open_hall()
        hall.add_writer("", 0, ALL, PLAIN)
        hall.close("a", True)
        self.assertEqual(hall.tell(record(name="a.b")), ())
        self.assertEqual(hall.tell(record(name="b")), (1,))

    def test_the_top_closed(self):
        hall = open_hall()
        hall.add_writer("", 0, ALL, PLAIN)
        hall.close("", True)
        self.assertEqual(hall.tell(record(name="a.b")), (1,))
        self.assertEqual(hall.tell(record(name="")), (1,))

    def test_several_closed(self):
        hall = open_hall()
        for name in ("", "a", "a.b", "a.b.c"):
            hall.add_writer(name, 0, ALL, PLAIN)
        hall.close("a", True)
        hall.close("a.b.c", True)
        self.assertEqual(hall.tell(record(name="a.b.c")), (4,))
        self.assertEqual(hall.tell(record(name="a.b")), (3, 2))
        hall.close("a.b.c", False)
        self.assertEqual(hall.tell(record(name="a.b.c")), (4, 3, 2))

    def test_levels_are_taken_from_above_a_closed_name(self):
        hall = Hall()
        hall.add_writer("a.b", 0, ALL, PLAIN)
        hall.set_level("", 10)
        hall.close("a", True)
        self.assertEqual(hall.tell(record(level=10)), (1,))

    def test_rows_laid_out(self):
        hall = open_hall()
        forms = ["{moment} {level} {name} {words}", "[{level=4}] {words>12}", "{{}}", "", "{name<5}|"]
        for form in forms:
            hall.add_writer("", 0, ALL, form)
        told = [record(level=37), record(name="", words="", moment=0), record(level=0, name="a", words="x" * 80)]
        for one in told:
            self.assertEqual(hall.tell(one), (1, 2, 3, 4, 5))
        for number, form in enumerate(forms, start=1):
            self.assertEqual(hall.rows(number), tuple(laid(form, one) for one in told))
            self.assertEqual(hall.rows(number), hall.rows(number))
        self.assertEqual(hall.rows(1)[0], "60 warn+7 a.b some words")
        self.assertEqual(hall.rows(2)[1], "[warn]             ")

    def test_the_same_record_again(self):
        hall = open_hall()
        hall.add_writer("a", 0, ALL, PLAIN)
        for k in range(3):
            self.assertEqual(hall.tell(record()), (1,))
        self.assertEqual(hall.rows(1), ("some words",) * 3)

    def test_a_writer_takes_nothing_that_was_told_ahead_of_it(self):
        hall = open_hall()
        hall.tell(record(words="ahead"))
        hall.add_writer("a", 0, ALL, PLAIN)
        hall.tell(record(words="behind"))
        self.assertEqual(hall.rows(1), ("behind",))

    def test_rows_that_were_told_stay_as_they_were(self):
        hall = open_hall()
        hall.add_writer("a", 0, ALL, PLAIN)
        hall.tell(record(words="first"))
        told = hall.rows(1)
        hall.tell(record(words="second"))
        self.assertEqual(told, ("first",))
        self.assertEqual(hall.rows(1), ("first", "second"))

    def test_names_of_the_most_parts(self):
        hall = open_hall()
        name = "a.b.c.d.e.f"
        places = (name,) + above(name)
        for place in places:
            hall.add_writer(place, 0, ALL, PLAIN)
        self.assertEqual(hall.tell(record(name=name)), (1, 2, 3, 4, 5, 6, 7))


class Model:
    """A hall told over: lists of what was done, asked each time from the beginning."""

    def __init__(self):
        self.deeds = []
        self.writers = []

    def level_of(self, name):
        for place in (name,) + above(name):
            own = 30 if place == "" else None
            for word, where, what in self.deeds:
                if word == "level" and where == place:
                    own = what if what is not None or place != "" else 30
            if own is not None:
                return own

    def quiet_level(self):
        return ([what for word, where, what in self.deeds if word == "quiet"] or [0])[-1]

    def is_closed(self, name):
        return ([what for word, where, what in self.deeds if word == "close" and where == name] or [False])[-1]

    def is_gone(self, number):
        return ("away", number, None) in self.deeds

    def tell(self, record):
        moment, level, name, words = record
        if level < self.level_of(name) or level < self.quiet_level():
            return ()
        told = []
        for place in (name,) + above(name):
            for number, (where, least, gate) in enumerate(self.writers, start=1):
                if where == place and not self.is_gone(number) and level >= least and passes(read_gate(gate), record):
                    told.append(number)
            if self.is_closed(place):
                break
        return tuple(told)


class ManyDeeds(unittest.TestCase):
    gates = ["yes", "no", "level 40", "under a.b", "has 'x'", "not has 'x'", "under a and level 20"]

    def do_something(self, source, hall, model):
        name, level = source.choice(NAMES), source.choice([0, 10, 29, 30, 31, 60, 99])
        deed = source.randrange(6)
        if deed == 0:
            hall.set_level(name, level)
            model.deeds.append(("level", name, level))
        if deed == 1:
            hall.unset_level(name)
            model.deeds.append(("level", name, None))
        if deed == 2 and source.randrange(3) == 0:
            hall.quiet(level)
            model.deeds.append(("quiet", None, level))
        if deed == 3:
            closed = source.choice([True, False])
            hall.close(name, closed)
            model.deeds.append(("close", name, closed))
        if deed == 4:
            gate = source.choice(self.gates)
            model.writers.append((name, level, gate))
            self.assertEqual(hall.add_writer(name, level, gate, PLAIN), len(model.writers))
        if deed == 5 and model.writers:
            number = source.randrange(len(model.writers)) + 1
            if not model.is_gone(number) and source.randrange(3) == 0:
                hall.take_away(number)
                model.deeds.append(("away", number, None))

    def test_as_the_model(self):
        for seed in range(40):
            source = random.Random(seed)
            hall, model, taken = Hall(), Model(), {}
            for k in range(80):
                self.do_something(source, hall, model)
                one = record(source.choice([0, 15, 30, 45, 99]), source.choice(NAMES), source.choice(["x", "y"]))
                self.assertEqual(hall.level_of(one[2]), model.level_of(one[2]))
                told = hall.tell(one)
                self.assertEqual(told, model.tell(one))
                for number in told:
                    taken.setdefault(number, []).append(one[3])
            for number in range(1, len(model.writers) + 1):
                if not model.is_gone(number):
                    self.assertEqual(hall.rows(number), tuple(taken.get(number, [])))


if __name__ == "__main__":
    unittest.main()
