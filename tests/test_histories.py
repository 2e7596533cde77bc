"""history, late and check: the times that are told, and times that are held against all bounds."""

import unittest

from tests.lines import HUGE, answered, apart, asked, check, last_of, limits
from tests.probing import BROKEN, EVIDENCE_FULL, STATE, WOKEN, Refusing

FAR = 10 ** 15
# Each event with a way to each other one.
TIED = apart(3) + limits((0, 1, 3, 5), (1, 2, -2, 4))


class History(Refusing, unittest.TestCase):
    def test_nothing_told(self):
        self.assertEqual(answered([("history",), ("box", 1, 1, 0), ("history",)]), [[0], [0], [0]])

    def test_one_event(self):
        self.assertEqual(asked(apart(1), "history"), [1, 0])

    def test_events_with_nothing_between_them(self):
        self.assertEqual(asked(apart(3), "history"), [3, 0, 0, 0])

    def test_least_sums_of_ways_from_any_event(self):
        # Ways back to 0 of -3 and, from 2, of -3 + 2; to 1 and 2 none below 0.
        self.assertEqual(asked(TIED, "history"), [3, 0, 3, 3])
        # To 0 -3 by 1, to 1 and 3 none below 0, to 2 -7 from 3.
        self.assertEqual(asked(apart(4) + limits((0, 1, 3, 9), (2, 3, 7, 8)), "history"), [4, 4, 7, 0, 7])

    def test_one_way_alone(self):
        start = apart(2) + [("wire", 0, 1, 4, -1), ("sent", 0), ("heard", 0, 1)]
        self.assertEqual(asked(start, "history"), [2, 0, 4])

    def test_one_box(self):
        start = [("box", 2, 3, 0), ("event", 0, 0), ("event", 0, 10), ("event", 0, 10), ("event", 0, 11)]
        self.assertEqual(asked(start, "history"), [4, 0, 20, 20, 22])

    def test_a_box_that_woke_anew(self):
        start = [("box", 2, 3, 0), ("event", 0, 9), ("wakes", 0), ("event", 1, 4), ("event", 1, 5)]
        self.assertEqual(asked(start, "history"), [3, 0, 0, 2])

    def test_a_way_over_several_bounds(self):
        start = apart(4) + limits((0, 1, 3, 9), (1, 2, 3, 9), (2, 3, -1, 9))
        self.assertEqual(asked(start, "history"), [4, 0, 3, 6, 6])

    def test_no_history(self):
        for prefix in (STATE, WOKEN, apart(2)):
            self.refused(prefix + BROKEN, ("history",), -8)


class Late(Refusing, unittest.TestCase):
    def test_the_most_behind_the_event(self):
        found = last_of(TIED, [("late", x) for x in range(3)])
        self.assertEqual(found, [[1, 3, 0, 5, 9], [1, 3, -3, 0, 4], [1, 3, -1, 2, 0]])

    def test_one_event(self):
        self.assertEqual(asked(apart(1), "late", 0), [1, 1, 0])

    def test_no_way_to_some_event(self):
        start = apart(2) + [("wire", 0, 1, 4, -1), ("sent", 0), ("heard", 0, 1)]
        self.assertEqual(last_of(start, [("late", 0), ("late", 1)]), [[0], [1, 2, -4, 0]])
        self.assertEqual(last_of(TIED + [("box", 1, 1, 0), ("event", 3, 0)], [("late", 0), ("late", 3)]), [[0], [0]])
        # From 0 there is a way to 1, but none to 2; from 2 a way to both.
        start = apart(3) + limits((0, 1, 0, 1)) + [("wire", 0, 2, 4, -1), ("sent", 0), ("heard", 0, 2)]
        self.assertEqual(last_of(start, [("late", x) for x in range(3)]), [[0], [0], [1, 3, -4, -3, 0]])

    def test_the_last_of_the_events(self):
        start = [("box", 1, 2, 0)] + [("event", 0, k) for k in range(16)]
        self.assertEqual(asked(start, "late", 15), [1, 16] + [k - 15 for k in range(16)])
        self.assertEqual(asked(start, "late", 0), [1, 16] + [2 * k for k in range(16)])

    def test_where_something_is_not_sure_it_tells_a_history(self):
        # 0 is not surely before 1, and surely not behind it; 1 may be behind 2 and ahead of it.
        start = apart(3) + limits((0, 1, 0, 5), (1, 2, -2, 4))
        self.assertEqual(last_of(start, [("sure", 0, 1), ("late", 1)]), [[1], [1, 3, 0, 0, 4]])
        self.assertEqual(last_of(start, [("sure", 1, 2), ("late", 2)]), [[0], [1, 3, 2, 2, 0]])
        self.assertEqual(last_of(start, [check(0, 0, 4), check(2, 2, 0)]), [[1], [1]])

    def test_refusals(self):
        for prefix in (STATE, STATE + BROKEN):
            self.refused(prefix, ("late", 5), -4)
            self.refused(prefix, ("late", 15), -4)
            self.refused(prefix, ("late", 16), -1)
            self.refused(prefix, ("late", -1), -1)
        for x in range(5):
            self.refused(STATE + BROKEN, ("late", x), -8)


class Check(Refusing, unittest.TestCase):
    def test_nothing_told(self):
        self.assertEqual(answered([check(), check(0)]), [[1], [-2]])

    def test_a_history(self):
        for times in ((0, 3, 1), (0, 5, 9), (-3, 0, 4), (100, 104, 104), (-FAR, 3 - FAR, 7 - FAR), (FAR - 5, FAR, FAR)):
            self.assertEqual(asked(TIED, *check(*times)), [1])

    def test_the_first_bound_that_does_not_hold(self):
        # 0 to 1 of 5, 1 to 0 of -3, 1 to 2 of 4, 2 to 1 of 2.
        for times, number in (
            ((0, 6, 6), 0), ((0, 6, 99), 0), ((0, 2, 2), 1), ((0, 2, 7), 1), ((0, 2, -9), 1),
            ((0, 3, 8), 2), ((0, 5, 2), 3), ((9, 9, 9), 1),
        ):
            with self.subTest(times=times):
                self.assertEqual(asked(TIED, *check(*times)), [0, number])

    def test_just_at_the_bounds(self):
        start = apart(2) + limits((0, 1, 3, 5))
        found = last_of(start, [check(0, gone) for gone in range(2, 7)])
        self.assertEqual(found, [[0, 1], [1], [1], [1], [0, 0]])

    def test_no_bounds(self):
        self.assertEqual(asked(apart(3), *check(FAR, -FAR, 0)), [1])

    def test_a_row_of_another_length(self):
        for times in ((), (0, 3), (0, 3, 1, 0), (0,) * 60):
            self.refused(TIED, check(*times), -2)
        self.refused(apart(1), check(), -2)
        self.refused([("box", 1, 1, 0)], check(0), -2)

    def test_a_time_beyond_its_range(self):
        start = apart(2)
        for times in ((FAR, -FAR), (-FAR, FAR), (FAR, FAR), (-FAR, -FAR)):
            self.assertEqual(asked(start, *check(*times)), [1])
        for beyond in (FAR + 1, -FAR - 1, HUGE, -HUGE):
            self.refused(start, check(0, beyond), -2)
            self.refused(start, check(beyond, 0), -2)

    def test_while_there_is_no_history(self):
        start = apart(2) + limits((0, 1, 0, 9)) + BROKEN
        self.assertEqual(last_of(start, [check(0, 900), check(0, -900), check(0, 5)]), [[0, 0], [0, 1], [0, 3]])
        self.refused(start, check(0), -2)
        self.refused(start, check(0, 0, 0), -2)
        self.refused(start, check(0, FAR + 1), -2)
        self.refused(start, check(-FAR - 1, 0), -2)

    def test_sixteen_events(self):
        start = [("box", 1, 2, 0)] + [("event", 0, k) for k in range(16)]
        self.assertEqual(asked(start, *check(*range(16))), [1])
        # The last bound is from the last event to the one ahead of it.
        self.assertEqual(asked(start, *check(*range(15), 14)), [0, 29])


class TimesThatAreTold(unittest.TestCase):
    def test_they_are_histories(self):
        for start in (STATE, WOKEN, EVIDENCE_FULL, TIED, apart(3), self.long_row()):
            told = asked(start, "history")[1:]
            size = len(told)
            self.assertEqual(min(told), 0)
            self.assertEqual(asked(start, *check(*told)), [1])
            for late in last_of(start, [("late", x) for x in range(size)]):
                if late[0] == 1:
                    self.assertEqual(late[1], size)
                    self.assertEqual(asked(start, *check(*late[2:])), [1])

    def test_beyond_the_range_of_check(self):
        start = apart(3) + limits((0, 1, FAR, FAR), (1, 2, FAR, FAR))
        self.assertEqual(last_of(start, [("history",), ("late", 2)]), [[3, 0, FAR, 2 * FAR], [1, 3, -2 * FAR, -FAR, 0]])
        self.assertEqual(last_of(start, [check(0, FAR, 2 * FAR), check(-FAR, 0, FAR)]), [[-2], [1]])

    def long_row(self):
        start = [("box", 3, 4, 2)] * 8 + [("event", k // 2, 10 * (k % 2)) for k in range(16)]
        return start + [("limit", k, k + 1, k - 6, k + 9) for k in range(1, 15, 2)]


if __name__ == "__main__":
    unittest.main()
