"""report, wakes and ruled: whether the one that is surely first is first of all presses, told or not."""

import unittest

from tests.lines import answered, apart, asked, last_of, limits
from tests.probing import BROKEN, STATE, Refusing

# Two teams; event 0 is the press of team 0.
PRESSED = [("box", 1, 1, 0), ("box", 1, 1, 0), ("press", 0, 100)]


def reported(lo, hi):
    """Team 1 reports from lo to hi behind the press of team 0."""
    return PRESSED + [("report", 1, 50), ("limit", 0, 1, lo, hi)]


class Ruled(Refusing, unittest.TestCase):
    def ruled(self, start, wanted):
        self.assertEqual(asked(start, "ruled"), wanted)

    def test_one_team_alone(self):
        self.ruled([("box", 1, 1, 0), ("press", 0, 3)], [1, 0])

    def test_a_team_without_a_report(self):
        self.ruled(PRESSED, [0, 1, 1])
        # Events and presses of it are no reports.
        self.ruled(PRESSED + [("event", 1, 5), ("press", 1, 9)] + limits((0, 1, 5, 9), (0, 2, 9, 9)), [0, 1, 1])

    def test_a_report_before_the_press(self):
        self.ruled(reported(-9, -1), [0, 1, 1])

    def test_a_report_at_one_moment_with_the_press(self):
        self.ruled(reported(0, 0), [1, 0])

    def test_a_report_behind_the_press(self):
        self.ruled(reported(1, 9), [1, 0])

    def test_a_report_that_is_surely_not_ahead(self):
        self.ruled(reported(0, 9), [1, 0])

    def test_a_report_that_may_be_ahead_or_behind(self):
        self.ruled(reported(-1, 9), [0, 1, 1])

    def test_a_report_that_nothing_ties_to_the_press(self):
        self.ruled(PRESSED + [("report", 1, 50)], [0, 1, 1])

    def test_the_last_report_tells(self):
        early = reported(-9, -1)
        self.ruled(early + [("report", 1, 51)], [0, 1, 1])
        self.ruled(early + [("report", 1, 59)], [1, 0])
        self.ruled(early + [("event", 1, 59)], [0, 1, 1])

    def test_it_hangs_on_no_report_of_another_team(self):
        start = [("box", 1, 1, 0)] * 4 + [("press", 0, 0), ("report", 1, 0), ("report", 3, 0)]
        self.ruled(start + limits((0, 1, 1, 2), (0, 2, 1, 2)), [0, 1, 2])
        self.ruled(start + limits((0, 1, 1, 2)), [0, 2, 2, 3])
        self.ruled(start, [0, 3, 1, 2, 3])
        self.ruled(start + [("report", 2, 0)] + limits((0, 1, 1, 2), (0, 2, 1, 2), (0, 3, 0, 2)), [1, 0])

    def test_the_team_of_the_press_needs_no_report(self):
        # Its own last report is ahead of the press.
        self.ruled([("box", 1, 1, 0), ("report", 0, 3), ("press", 0, 9)], [1, 1])
        start = [("box", 1, 1, 0)] * 2 + [("report", 1, 3), ("press", 1, 9), ("report", 0, 4)]
        self.ruled(start + limits((1, 2, 0, 5)), [1, 1])
        self.ruled(start, [0, 1, 0])

    def test_the_first_of_several_presses(self):
        start = apart(3, "press") + limits((1, 0, 1, 9), (1, 2, 1, 9))
        self.ruled(start, [0, 2, 0, 2])
        start += [("report", 0, 0), ("report", 2, 0)]
        self.ruled(start, [1, 1])
        # With no surely first one there is no team to wait for.
        self.ruled(start + [("box", 1, 1, 0), ("press", 3, 0)], [0, 0])

    def test_none_is_surely_first(self):
        self.ruled(apart(2, "press"), [0, 0])
        self.ruled(apart(2, "press") + limits((0, 1, 0, 9)) + [("report", 0, 9), ("report", 1, 9)], [0, 0])
        self.ruled([("box", 1, 1, 0), ("press", 0, 5), ("press", 0, 5)], [0, 0])

    def test_the_least_time_of_a_hearing_closes_a_team(self):
        start = PRESSED + [("wire", 0, 1, 0, -1), ("sent", 0), ("report", 1, 7), ("heard", 0, 1)]
        self.ruled(start, [1, 0])
        self.ruled(start + [("drop", 0)], [0, 1, 1])

    def test_refusals(self):
        self.refused([], ("ruled",), -9)
        self.refused(apart(2), ("ruled",), -9)
        self.refused(apart(2, "report"), ("ruled",), -9)
        self.refused(apart(2) + BROKEN, ("ruled",), -8)
        self.refused(apart(2, "press") + BROKEN, ("ruled",), -8)
        self.refused(STATE + BROKEN, ("ruled",), -8)


class Wakes(unittest.TestCase):
    def ruled(self, start, wanted):
        self.assertEqual(asked(start, "ruled"), wanted)

    def test_both_boxes_are_one_team(self):
        # Team 1 is boxes 1 and 2: it is named once, by its first box, and not by boxes of it.
        self.ruled(PRESSED + [("wakes", 1)], [0, 1, 1])
        self.ruled(PRESSED + [("wakes", 1), ("wakes", 2), ("box", 1, 1, 0)], [0, 2, 1, 4])
        # Team 0 goes on as box 2, and is the press's own.
        self.ruled([("box", 1, 1, 0), ("press", 0, 5), ("wakes", 0), ("event", 1, 0)], [1, 0])
        self.ruled([("box", 1, 1, 0), ("event", 0, 5), ("wakes", 0), ("press", 1, 0)], [1, 1])

    def test_a_report_of_the_box_before_it_woke_anew(self):
        self.ruled(reported(0, 9) + [("wakes", 1)], [1, 0])
        self.ruled(reported(-9, -1) + [("wakes", 1)], [0, 1, 1])
        self.ruled(reported(0, 9) + [("wakes", 1), ("event", 2, 0)], [1, 0])

    def test_a_report_of_the_box_that_goes_on(self):
        # It is behind all events of the old one, of which one is tied to the press.
        start = PRESSED + [("event", 1, 50), ("limit", 0, 1, 0, 9), ("wakes", 1), ("report", 2, 0)]
        self.ruled(start, [1, 0])
        start = PRESSED + [("event", 1, 50), ("limit", 0, 1, -1, 9), ("wakes", 1), ("report", 2, 0)]
        self.ruled(start, [0, 1, 1])
        self.ruled(start + [("limit", 0, 2, 0, 9)], [1, 0])

    def test_the_last_report_is_that_of_the_box_that_goes_on(self):
        # Ahead of the press the old box reported; the new one does so behind it.
        start = reported(-9, -1) + [("wakes", 1), ("report", 2, 0)]
        self.ruled(start, [0, 1, 1])
        self.ruled(start + [("limit", 0, 2, 0, 5)], [1, 0])
        self.ruled(start + [("limit", 0, 2, -1, 5)], [0, 1, 1])

    def test_presses_of_a_team_that_woke_anew(self):
        start = [("box", 1, 1, 0), ("press", 0, 9), ("wakes", 0), ("press", 1, 0)]
        # They may be at one moment.
        self.assertEqual(last_of(start, [("sure", 0, 1), ("sure", 1, 0), ("ruled",)]), [[1], [0], [0, 0]])
        self.ruled(start + [("limit", 0, 1, 1, 9)], [1, 0])

    def test_the_box_that_goes_on_has_the_same_rates_and_grain(self):
        start = [("box", 3, 7, 2), ("wakes", 0), ("event", 1, 0), ("event", 1, 10)]
        self.assertEqual(last_of(start, [("most", 0, 1), ("most", 1, 0)]), [[1, 84], [1, -24]])

    def test_eight_boxes_by_wakes(self):
        calls = [("box", 1, 1, 0)] + [("wakes", i) for i in range(8)] + [("box", 1, 1, 0), ("event", 7, 0), ("wakes", 0)]
        self.assertEqual(answered(calls), [[i] for i in range(8)] + [[-7], [-7], [0], [-11]])

    def test_a_wire_is_of_the_team(self):
        # Told of the new box, it holds for what the old one sent and for what the newest one hears.
        start = [("box", 1, 1, 0), ("box", 1, 1, 0), ("event", 0, 0), ("wakes", 0), ("wakes", 1), ("event", 3, 0)]
        start += [("sent", 0), ("wire", 2, 1, 4, 9), ("heard", 0, 1)]
        self.assertEqual(last_of(start, [("most", 0, 1), ("most", 1, 0)]), [[1, 9], [1, -4]])
        self.assertEqual(last_of(start, [("wire", 0, 3, 5, 6), ("most", 0, 1)]), [[0], [1, 6]])


class Reports(unittest.TestCase):
    def test_their_numbers(self):
        calls = [("box", 1, 1, 0), ("report", 0, 0), ("event", 0, 0), ("report", 0, 3), ("report", 0, 2)]
        self.assertEqual(answered(calls)[1:], [[0], [1], [2], [-3]])

    def test_they_are_events_like_others(self):
        start = apart(1) + [("report", 0, 8), ("sent", 1), ("limit", 0, 1, 8, 8)]
        self.assertEqual(last_of(start, [("sure", 0, 1), ("most", 0, 1)]), [[2], [1, 8]])

    def test_sixteen_events_of_all_kinds(self):
        kinds = ("event", "press", "report")
        events = [(kinds[k % 3], 0, 0) for k in range(16)]
        self.assertEqual(last_of([("box", 1, 1, 0)], events + [(kind, 0, 0) for kind in kinds]),
                         [[k] for k in range(16)] + [[-7]] * 3)


if __name__ == "__main__":
    unittest.main()
