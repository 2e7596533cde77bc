"""first, needed and would: who was first, what it hangs on, and what one more hearing would make of it."""

import unittest

from tests.lines import HUGE, answered, apart, asked, first, last_of, limits
from tests.probing import BROKEN, STATE, WOKEN, Refusing


class First(Refusing, unittest.TestCase):
    # 1 is surely before 0 and 2, 2 before 0; nothing is known of 3.
    ROW = apart(4) + limits((1, 2, 1, 9), (2, 0, 1, 9))

    def test_a_list(self):
        for events, wanted in (
            ((0, 1), [1, 1]), ((0, 2), [1, 2]), ((1, 2), [1, 1]), ((0, 1, 2), [1, 1]),
            ((0, 3), [0, 2, 0, 3]), ((0, 1, 3), [0, 2, 1, 3]), ((0, 2, 3), [0, 2, 2, 3]), ((0, 1, 2, 3), [0, 2, 1, 3]),
        ):
            with self.subTest(events=events):
                self.assertEqual(asked(self.ROW, *first(*events)), wanted)

    def test_a_list_of_one_event(self):
        for x in range(4):
            self.assertEqual(asked(self.ROW, *first(x)), [1, x])

    def test_none_is_all_presses(self):
        # Presses are 1, 3 and 4; events 0 and 2, a report, go ahead of all of them.
        start = [("box", 1, 1, 0)] * 5 + [("event", 0, 0), ("press", 1, 0), ("report", 2, 0), ("press", 3, 0)]
        start += [("press", 4, 0)] + limits((0, 1, 5, 9), (2, 1, 5, 9), (1, 3, 1, 2), (1, 4, -1, 8))
        self.assertEqual(asked(start, *first()), [0, 2, 1, 4])
        self.assertEqual(asked(start + limits((1, 4, 1, 8)), *first()), [1, 1])
        self.assertEqual(asked(start, *first(0, 1, 3, 4)), [1, 0])
        self.assertEqual(asked(start, *first(0, 1, 2, 3, 4)), [0, 2, 0, 2])

    def test_one_press_is_first(self):
        self.assertEqual(asked([("box", 1, 1, 0), ("press", 0, 5), ("event", 0, 2)], *first()), [1, 0])

    def test_events_at_one_moment(self):
        start = apart(3) + limits((0, 1, 0, 0))
        self.assertEqual(asked(start, *first(0, 1)), [0, 2, 0, 1])
        self.assertEqual(asked(start, *first(0, 1, 2)), [0, 3, 0, 1, 2])
        self.assertEqual(asked(start + limits((1, 2, 1, 1)), *first(0, 1, 2)), [0, 2, 0, 1])
        self.assertEqual(asked(start + limits((2, 1, 1, 1)), *first(0, 1, 2)), [1, 2])

    def test_not_behind_is_not_before(self):
        # 0 is surely not behind 1, but may be at one moment with it.
        start = apart(2) + limits((0, 1, 0, 5))
        self.assertEqual(last_of(start, [("sure", 0, 1), first(0, 1)]), [[1], [0, 2, 0, 1]])

    def test_surely_before_over_other_events(self):
        start = apart(3) + limits((0, 2, 4, 9), (1, 2, 0, 3))
        self.assertEqual(asked(start, *first(0, 1)), [1, 0])

    def test_one_that_leads_all_the_others_by_a_row_of_them(self):
        start = apart(4) + limits((3, 2, 1, 5), (2, 1, 1, 5), (1, 0, 1, 5))
        self.assertEqual(asked(start, *first(0, 1, 2, 3)), [1, 3])
        self.assertEqual(asked(start, *first(0, 1, 2)), [1, 2])

    def test_all_may_be_first(self):
        self.assertEqual(asked(apart(5, "press"), *first()), [0, 5, 0, 1, 2, 3, 4])

    def test_sixteen_events(self):
        start = [("box", 1, 1, 0)] + [("press", 0, k) for k in range(16)]
        self.assertEqual(last_of(start, [first(*range(16)), first(), first(*range(1, 16, 2))]), [[1, 0], [1, 0], [1, 1]])
        start = [("box", 1, 1, 0)] + [("press", 0, 3)] * 16
        self.assertEqual(asked(start, *first()), [0, 16] + list(range(16)))

    def test_a_list_that_is_not_as_told(self):
        wrong = [
            (1, 0), (0, 0), (2, 2), (0, 2, 1), (0, 1, 1), (0, 0, 1), (4, 3), (-1,), (-1, 0), (0, -1), (5,), (0, 5),
            (0, 1, 2, 3, 4, 5), (0, 16), (0, HUGE), (-HUGE, 0), (HUGE,), (1, 0, 2, 3), tuple(range(60)), (0,) * 60,
        ]
        for events in wrong:
            self.refused(STATE, first(*events), -2)
            self.refused(STATE + BROKEN, first(*events), -2)
        self.refused([], first(0), -2)

    def test_refusals_in_order(self):
        no_press = apart(2)
        self.refused(no_press, first(), -9)
        self.refused([], first(), -9)
        self.refused([("box", 1, 1, 0), ("report", 0, 3)], first(), -9)
        self.refused(no_press + BROKEN, first(), -8)
        self.refused(no_press + BROKEN, first(1, 0), -2)
        self.refused(no_press, first(1, 0), -2)
        self.refused(STATE + BROKEN, first(), -8)
        self.refused(STATE + BROKEN, first(2), -8)
        self.refused(STATE + BROKEN, first(0, 1), -8)
        # A list with an event needs no press.
        self.assertEqual(asked(no_press, *first(1)), [1, 1])


class Needed(Refusing, unittest.TestCase):
    def test_evidence_that_is_needed_alone(self):
        start = apart(3) + limits((0, 1, 1, 5), (1, 2, 0, 5), (0, 2, -9, 9))
        self.assertEqual(last_of(start, [("needed", 0, 1), ("needed", 0, 2)]), [[1, 0], [2, 0, 1]])

    def test_either_of_two_is_enough(self):
        start = apart(2) + limits((0, 1, 1, 5), (0, 1, 2, 6))
        self.assertEqual(asked(start, "needed", 0, 1), [0])
        self.assertEqual(asked(start + [("drop", 0)], "needed", 0, 1), [1, 0])

    def test_two_that_only_together_are_enough(self):
        start = apart(3) + limits((0, 1, 0, 5), (2, 0, -4, 4), (1, 2, 1, 5))
        self.assertEqual(asked(start, "needed", 0, 2), [2, 0, 2])

    def test_evidence_that_leaves_them_at_one_moment_is_needed(self):
        # Without the second one 0 is surely not behind 1, which is not enough.
        start = apart(2) + limits((0, 1, 0, 5), (0, 1, 1, 6))
        self.assertEqual(last_of(start, [("needed", 0, 1), ("drop", 1), ("sure", 0, 1)]), [[1, 1], [1], [1]])

    def test_the_clock_alone_is_enough(self):
        start = [("box", 1, 1, 0), ("event", 0, 0), ("event", 0, 5), ("limit", 0, 1, 2, 9)]
        self.assertEqual(asked(start, "needed", 0, 1), [0])

    def test_no_evidence_at_all(self):
        start = [("box", 1, 1, 0), ("event", 0, 0), ("event", 0, 5)]
        self.assertEqual(asked(start, "needed", 0, 1), [0])

    def test_a_hearing(self):
        start = apart(2) + [("wire", 0, 1, 3, -1), ("sent", 0), ("limit", 0, 1, -9, 9), ("heard", 0, 1)]
        self.assertEqual(asked(start, "needed", 0, 1), [1, 1])
        self.assertEqual(asked(start + [("heard", 0, 1)], "needed", 0, 1), [0])

    def test_the_last_of_24(self):
        start = apart(2) + limits((0, 1, -5, 9)) * 23 + limits((0, 1, 1, 9))
        self.assertEqual(asked(start, "needed", 0, 1), [1, 23])

    def test_refusals(self):
        self.assertEqual(asked(STATE, "needed", 0, 1), [1, 0])
        self.refused(STATE, ("needed", 1, 0), -9)
        self.refused(STATE, ("needed", 0, 0), -9)
        self.refused(STATE, ("needed", 2, 0), -9)
        self.refused(apart(2) + limits((0, 1, 0, 5)), ("needed", 0, 1), -9)
        for x, y in ((0, 1), (1, 0), (0, 0), (2, 4)):
            self.refused(STATE + BROKEN, ("needed", x, y), -8)
        for prefix in (STATE, STATE + BROKEN):
            self.refused(prefix, ("needed", 5, 0), -4)
            self.refused(prefix, ("needed", 0, 15), -4)
            self.refused(prefix, ("needed", 16, 5), -1)
            self.refused(prefix, ("needed", 5, 16), -1)
            self.refused(prefix, ("needed", -1, 0), -1)


class Would(Refusing, unittest.TestCase):
    # Each of two boxes has pressed, at 100; box 0's press, event 0, is told in message 0, box 1's, event 1, in message 1.
    START = [
        ("box", 10, 10, 0), ("box", 10, 10, 0), ("wire", 0, 1, 5, 50), ("wire", 1, 0, 5, -1),
        ("press", 0, 100), ("press", 1, 100), ("sent", 0), ("sent", 1),
    ]
    # The same, but no presses.
    PLAIN = [("event",) + call[1:] if call[0] == "press" else call for call in START]
    # Box 2 has no wires, and has waked anew as box 3; its one event is event 2.
    THREE = START + [("box", 1, 1, 0), ("event", 2, 9), ("wakes", 2)]

    def test_what_it_answers(self):
        # Heard d behind the press of box 1, that of box 0 is d - 50 to d - 5 behind it: d is 0, 40, 50, 60.
        self.assertEqual(asked(self.START, *first()), [0, 2, 0, 1])
        for stamp, wanted in ((100, [1, 0]), (104, [0, 2, 0, 1]), (105, [0, 2, 0, 1]), (106, [1, 1])):
            with self.subTest(stamp=stamp):
                self.assertEqual(asked(self.START, "would", 0, 1, stamp), wanted)
        self.assertEqual(asked(self.START, "would", 1, 0, 100), [1, 1])
        self.assertEqual(asked(self.START, "would", 1, 0, 101), [0, 2, 0, 1])

    def test_it_is_what_first_answers_then(self):
        for m, i, stamp in ((0, 1, 100), (0, 1, 104), (0, 1, 200), (1, 0, 100), (1, 0, 300)):
            told = [("event", i, stamp), ("heard", m, 2), first()]
            self.assertEqual(asked(self.START, "would", m, i, stamp), answered(self.START + told)[-1])

    def test_the_event_is_no_press(self):
        # A press at 100 would be at one moment with event 1.
        self.assertEqual(asked(self.START, "would", 1, 0, 100), [1, 1])
        start = self.START + [("box", 10, 10, 0), ("wire", 0, 2, 0, 9), ("limit", 0, 1, 1, 9)]
        self.assertEqual(asked(start, "would", 0, 2, 0), [1, 0])

    def test_by_a_box_that_goes_on(self):
        start = [("box", 10, 10, 0), ("press", 0, 50), ("box", 10, 10, 0), ("press", 1, 50), ("wakes", 1)]
        start += [("wire", 1, 0, 0, -1), ("wire", 0, 1, 5, 5), ("sent", 0), ("sent", 1)]
        self.assertEqual(asked(start, "would", 0, 2, 0), [0, 2, 0, 1])
        self.assertEqual(asked(start, "would", 1, 0, 50), [0, 2, 0, 1])
        self.assertEqual(asked(start + [("limit", 1, 0, 1, 90)], "would", 0, 2, 0), [1, 1])

    def test_nothing_changes(self):
        asks = [("told",), ("bounds",), first(), ("history",), ("event", 1, 100), ("limit", 0, 1, 0, 0), ("bounds",)]
        wanted = last_of(self.START, asks)
        found = last_of(self.START, [("would", 0, 1, 10 ** 9), ("would", 1, 0, 100)] + asks)
        self.assertEqual(found, [[1, 1], [1, 1]] + wanted)
        found = last_of(WOKEN, [("would", 0, 1, 60), ("would", 1, 0, 210)] + asks)
        self.assertEqual(found, [[1, 1], [1, 1]] + last_of(WOKEN, asks))

    def test_each_refusal_alone(self):
        for call in (("would", 12, 1, 100), ("would", -1, 1, 100), ("would", 0, 8, 100), ("would", 0, -1, 100),
                     ("would", 0, 1, -1), ("would", 0, 1, 10 ** 9 + 1)):
            self.refused(self.START, call, -1)
        self.refused(self.START, ("would", 2, 1, 100), -4)
        self.refused(self.START, ("would", 0, 2, 100), -4)
        self.refused(self.START + [("wakes", 1)], ("would", 0, 1, 100), -11)
        self.refused(self.START, ("would", 0, 1, 99), -3)
        for full in self.filled(self.START):
            self.refused(full, ("would", 0, 1, 100), -7)
        self.refused(self.START, ("would", 0, 0, 100), -5)
        self.refused(self.START + [("wakes", 0)], ("would", 0, 2, 100), -5)
        self.refused(self.THREE, ("would", 0, 3, 0), -6)
        self.refused(self.PLAIN, ("would", 0, 1, 100), -9)
        self.refused(self.START + limits((0, 1, 51, 60)), ("would", 0, 1, 100), -10)

    def test_there_is_no_history_already(self):
        self.refused(self.START + BROKEN, ("would", 0, 1, 100), -10)
        self.refused(self.START + BROKEN, ("would", 1, 0, 100), -10)

    def test_just_room_enough(self):
        self.assertEqual(asked(self.START + [("event", 0, 100)] * 13, "would", 0, 1, 100), [1, 0])
        self.assertEqual(asked(self.START + limits((0, 1, -999, 999)) * 23, "would", 0, 1, 100), [1, 0])

    def test_a_wire_back_is_none_there(self):
        start = [call for call in self.START if call[:2] != ("wire", 1)]
        self.refused(start, ("would", 1, 0, 100), -6)

    def test_out_of_range_goes_ahead_of_not_there(self):
        self.refused(self.START, ("would", 2, 1, -1), -1)
        self.refused(self.START, ("would", 2, 8, 100), -1)
        self.refused(self.START, ("would", 12, 2, 100), -1)
        self.refused([], ("would", 0, 0, -1), -1)

    def test_not_there_goes_ahead_of_woken(self):
        self.refused(self.THREE, ("would", 2, 2, 9), -4)
        self.refused(self.THREE, ("would", 2, 0, 99), -4)
        self.refused(self.filled(self.START)[0], ("would", 0, 2, 100), -4)

    def test_woken_goes_ahead_of_all_behind_it(self):
        self.refused(self.THREE, ("would", 0, 2, 8), -11)
        self.refused(self.THREE, ("would", 0, 2, 9), -11)
        for full in self.filled(self.THREE):
            self.refused(full, ("would", 0, 2, 9), -11)
        self.refused(self.START + [("wakes", 0)], ("would", 0, 0, 100), -11)
        self.refused(self.PLAIN + [("wakes", 1)], ("would", 0, 1, 100), -11)
        self.refused(self.START + BROKEN + [("wakes", 1)], ("would", 0, 1, 100), -11)

    def filled(self, start):
        """The same with 16 events, and the same with 24 pieces of evidence."""
        events = sum(call[0] in ("event", "press") for call in start)
        return start + [("event", 0, 100)] * (16 - events), start + limits((0, 1, -999, 999)) * 24

    def test_falling_back_goes_ahead_of_all_behind_it(self):
        for full in self.filled(self.START):
            self.refused(full, ("would", 0, 1, 99), -3)
        self.refused(self.START, ("would", 0, 0, 99), -3)
        self.refused(self.THREE + [("event", 3, 5)], ("would", 0, 3, 4), -3)
        self.refused(self.PLAIN, ("would", 0, 1, 99), -3)
        self.refused(self.START + BROKEN, ("would", 0, 1, 99), -3)

    def test_full_goes_ahead_of_all_behind_it(self):
        for full in self.filled(self.START):
            self.refused(full, ("would", 0, 0, 100), -7)
        for full in self.filled(self.THREE):
            self.refused(full, ("would", 0, 3, 0), -7)
        for full in self.filled(self.PLAIN):
            self.refused(full, ("would", 0, 1, 100), -7)
        self.refused(self.filled(self.START + BROKEN)[0], ("would", 0, 1, 100), -7)
        self.refused(self.START + BROKEN * 12, ("would", 0, 1, 100), -7)

    def test_one_team_and_no_wire_go_ahead_of_no_press_and_no_history(self):
        self.refused(self.PLAIN, ("would", 0, 0, 100), -5)
        self.refused(self.START + BROKEN, ("would", 0, 0, 100), -5)
        self.refused(self.PLAIN + [("box", 1, 1, 0)], ("would", 0, 2, 0), -6)
        self.refused(self.THREE + BROKEN, ("would", 0, 3, 0), -6)

    def test_no_press_goes_ahead_of_no_history(self):
        self.refused(self.PLAIN + limits((0, 1, 51, 60)), ("would", 0, 1, 100), -9)
        self.refused(self.PLAIN + BROKEN, ("would", 0, 1, 100), -9)


if __name__ == "__main__":
    unittest.main()
