"""Points 0.2 (c), 0.3, 5.1 and 5.2: records held back, and limits."""

import itertools
import random
import unittest

from loghall.errors import Falling, LogError
from loghall.holds import Holder, Limit


def record(level, words="x", moment=60):
    return (moment, level, "a.b", words)


LOW = [record(10, "w" + str(k)) for k in range(10)]


class Hold(unittest.TestCase):
    def test_nothing_is_held_at_first(self):
        holder = Holder(3, 40)
        self.assertEqual(holder.held(), ())
        self.assertEqual(holder.let_go(), ())
        self.assertEqual(holder.held(), ())

    def test_held_until_there_are_many(self):
        holder = Holder(3, 40)
        for k in range(3):
            self.assertEqual(holder.put(LOW[0]), ())
            self.assertEqual(holder.put(LOW[1]), ())
            self.assertEqual(holder.held(), (LOW[0], LOW[1]))
            self.assertEqual(holder.put(LOW[2]), (LOW[0], LOW[1], LOW[2]))
            self.assertEqual(holder.held(), ())

    def test_each_many(self):
        for many in range(1, 9):
            holder = Holder(many, 40)
            told = [holder.put(one) for one in LOW]
            for k in range(10):
                expected = tuple(LOW[k - many + 1:k + 1]) if (k + 1) % many == 0 else ()
                self.assertEqual(told[k], expected)
            self.assertEqual(holder.held(), tuple(LOW[10 - 10 % many:]))

    def test_of_one(self):
        holder = Holder(1, 99)
        for one in LOW:
            self.assertEqual(holder.put(one), (one,))
            self.assertEqual(holder.held(), ())

    def test_just_at_the_level(self):
        holder = Holder(5, 40)
        self.assertEqual(holder.put(record(39)), ())
        self.assertEqual(holder.put(record(40)), (record(39), record(40)))
        self.assertEqual(holder.held(), ())

    def test_above_the_level(self):
        holder = Holder(5, 40)
        holder.put(LOW[0])
        holder.put(LOW[1])
        self.assertEqual(holder.put(record(41)), (LOW[0], LOW[1], record(41)))
        self.assertEqual(holder.put(record(99)), (record(99),))
        self.assertEqual(holder.held(), ())

    def test_of_level_0(self):
        holder = Holder(5, 0)
        self.assertEqual(holder.put(record(0)), (record(0),))

    def test_let_go(self):
        holder = Holder(3, 40)
        holder.put(LOW[0])
        holder.put(LOW[1])
        self.assertEqual(holder.let_go(), (LOW[0], LOW[1]))
        self.assertEqual(holder.let_go(), ())
        self.assertEqual(holder.held(), ())
        self.assertEqual([holder.put(one) for one in LOW[:3]], [(), (), tuple(LOW[:3])])

    def test_the_same_record_again(self):
        holder = Holder(3, 40)
        self.assertEqual([holder.put(LOW[0]) for k in range(3)], [(), (), (LOW[0],) * 3])

    def test_looks_change_nothing(self):
        holder = Holder(3, 40)
        holder.put(LOW[0])
        for k in range(5):
            self.assertEqual(holder.held(), (LOW[0],))
        holder.put(LOW[1])
        for k in range(5):
            self.assertEqual(holder.held(), (LOW[0], LOW[1]))
        self.assertEqual(holder.put(LOW[2]), tuple(LOW[:3]))

    def test_what_was_told_stays(self):
        holder = Holder(3, 40)
        holder.put(LOW[0])
        told = holder.held()
        holder.put(LOW[1])
        self.assertEqual(told, (LOW[0],))

    def test_kinds(self):
        holder = Holder(2, 40)
        for told in (holder.put(LOW[0]), holder.held(), holder.put(LOW[1]), holder.held(), holder.let_go()):
            self.assertIs(type(told), tuple)

    def test_two_beside_one_another(self):
        first, second = Holder(2, 40), Holder(3, 20)
        first.put(LOW[0])
        self.assertEqual(second.held(), ())
        second.put(LOW[1])
        self.assertEqual(first.put(LOW[2]), (LOW[0], LOW[2]))
        self.assertEqual(second.held(), (LOW[1],))
        self.assertEqual(second.put(record(20)), (LOW[1], record(20)))

    def test_nothing_is_lost_and_nothing_told_twice(self):
        source = random.Random(5)
        for k in range(60):
            holder = Holder(source.randrange(1, 6), source.randrange(0, 100))
            records = [record(source.randrange(100), str(j)) for j in range(30)]
            told = []
            for one in records:
                told += holder.put(one)
            self.assertEqual(told + list(holder.let_go()), records)


def allowed(many, span, takes):
    """What a limit should tell: of each take True, False or "falling"."""
    told, let, handed = [], [], [0]
    for moment, key in takes:
        if moment < max(handed):
            told.append("falling")
            continue
        handed.append(moment)
        within = [one for one in let if one[1] == key and one[0] > moment - span]
        told.append(len(within) < many)
        if told[-1]:
            let.append((moment, key))
    return told


def taken(limit, takes):
    told = []
    for moment, key in takes:
        try:
            told.append(limit.take(moment, key))
        except Falling:
            told.append("falling")
    return told


class Limits(unittest.TestCase):
    def test_moments_just_at_and_above(self):
        limit = Limit(1, 10)
        self.assertIs(limit.take(5, "a"), True)
        self.assertIs(limit.take(14, "a"), False)
        self.assertIs(limit.take(15, "a"), True)
        self.assertIs(limit.take(24, "a"), False)
        self.assertIs(limit.take(25, "a"), True)

    def test_many_at_one_moment(self):
        for many in range(1, 6):
            limit = Limit(many, 7)
            self.assertEqual([limit.take(3, "a") for k in range(8)], [True] * many + [False] * (8 - many))
            self.assertIs(limit.take(9, "a"), False)
            self.assertEqual([limit.take(10, "a") for k in range(8)], [True] * many + [False] * (8 - many))

    def test_a_span_of_one(self):
        limit = Limit(1, 1)
        self.assertEqual(taken(limit, [(0, "a"), (0, "a"), (1, "a"), (1, "a"), (2, "a")]), [True, False] * 2 + [True])

    def test_each_leaves_when_its_own_span_is_over(self):
        limit = Limit(2, 10)
        takes = [(0, "a"), (5, "a"), (9, "a"), (10, "a"), (14, "a"), (15, "a"), (15, "a"), (20, "a")]
        self.assertEqual(taken(limit, takes), [True, True, False, True, False, True, False, True])

    def test_those_told_false_do_not_count(self):
        limit = Limit(1, 10)
        self.assertEqual(taken(limit, [(0, "a"), (9, "a"), (9, "a"), (10, "a")]), [True, False, False, True])
        self.assertEqual(taken(limit, [(19, "a"), (20, "a")]), [False, True])

    def test_several_keys(self):
        limit = Limit(1, 10)
        self.assertEqual([limit.take(3, key) for key in ("a", "b", "", "a ", "A")], [True] * 5)
        self.assertEqual([limit.take(4, key) for key in ("a", "b", "", "a ", "A")], [False] * 5)
        self.assertIs(limit.take(5, "c"), True)
        self.assertEqual([limit.take(13, key) for key in ("a", "c")], [True, False])

    def test_moment_0_first(self):
        limit = Limit(1, 5)
        self.assertIs(limit.take(0, "a"), True)
        self.assertIs(limit.take(0, "a"), False)
        self.assertIs(limit.take(0, "b"), True)

    def test_below_0_first(self):
        limit = Limit(1, 5)
        with self.assertRaises(Falling):
            limit.take(-1, "a")
        self.assertIs(limit.take(0, "a"), True)

    def test_falling(self):
        limit = Limit(3, 5)
        limit.take(10, "a")
        for moment in (9, 0):
            with self.assertRaises(Falling) as caught:
                limit.take(moment, "a")
            self.assertIsInstance(caught.exception, LogError)
        self.assertIs(limit.take(10, "a"), True)

    def test_falling_for_another_key(self):
        limit = Limit(3, 5)
        limit.take(10, "a")
        with self.assertRaises(Falling):
            limit.take(9, "b")
        self.assertIs(limit.take(10, "b"), True)

    def test_falling_behind_one_told_false(self):
        limit = Limit(1, 100)
        self.assertEqual(taken(limit, [(5, "a"), (20, "a")]), [True, False])
        self.assertEqual(taken(limit, [(19, "a"), (19, "b"), (6, "b"), (20, "b")]), ["falling", "falling", "falling", True])

    def test_one_refused_changes_nothing(self):
        limit = Limit(1, 5)
        self.assertEqual(taken(limit, [(10, "a"), (3, "a"), (9, "a"), (9, "b")]), [True, "falling", "falling", "falling"])
        self.assertEqual(taken(limit, [(10, "b"), (14, "a"), (15, "a")]), [True, False, True])

    def test_one_refused_does_not_count_as_let(self):
        limit = Limit(1, 100)
        limit.take(10, "a")
        with self.assertRaises(Falling):
            limit.take(9, "b")
        self.assertIs(limit.take(10, "b"), True)
        self.assertIs(limit.take(10, "b"), False)

    def test_great_moments(self):
        limit = Limit(2, 999999999)
        takes = [(0, "a"), (999999998, "a"), (999999998, "a"), (999999999, "a"), (999999999, "a")]
        self.assertEqual(taken(limit, takes), [True, True, False, True, False])

    def test_two_beside_one_another(self):
        first, second = Limit(1, 10), Limit(1, 10)
        self.assertIs(first.take(50, "a"), True)
        self.assertIs(second.take(3, "a"), True)
        self.assertIs(second.take(4, "a"), False)

    def test_all_short_runs(self):
        for many, span in itertools.product((1, 2, 3), (1, 2, 3)):
            for moments in itertools.product(range(5), repeat=5):
                takes = [(moment, "a") for moment in moments]
                self.assertEqual(taken(Limit(many, span), takes), allowed(many, span, takes))

    def test_long_runs_of_several_keys(self):
        for seed in range(60):
            source = random.Random(seed)
            many, span, moment, takes = source.randrange(1, 5), source.randrange(1, 12), 0, []
            for k in range(150):
                moment = max(0, moment + source.choice([0, 0, 0, 1, 1, 2, 5, -1]))
                takes.append((moment, source.choice(["a", "b", ""])))
            told = taken(Limit(many, span), takes)
            self.assertEqual(told, allowed(many, span, takes))
            self.assert_no_span_is_too_full(many, span, takes, told)

    def assert_no_span_is_too_full(self, many, span, takes, told):
        let = [take for take, answer in zip(takes, told) if answer is True]
        for start, key in let:
            within = [one for one in let if one[1] == key and start <= one[0] < start + span]
            self.assertLessEqual(len(within), many)


if __name__ == "__main__":
    unittest.main()
