"""The bounds' numbers and sums, as fits, most and way tell them."""

import unittest

from tests.lines import adds, answered, apart, asked, bounds_of, last_of


def both(x, y):
    return [("most", x, y), ("way", x, y), ("most", y, x), ("way", y, x)]


class ClockBounds(unittest.TestCase):
    def one_box(self, d, forth, back):
        start = [("box", 2, 3, 5), ("event", 0, 40), ("event", 0, 40 + d)]
        with self.subTest(d=d):
            self.assertEqual(last_of(start, both(0, 1)), [[1, forth], [1, 1, 0], [1, back], [1, 1, 1]])

    def test_less_than_the_grain(self):
        self.one_box(0, 15, 0)
        self.one_box(3, 24, 0)
        self.one_box(4, 27, 0)

    def test_equal_to_the_grain(self):
        self.one_box(5, 30, 0)

    def test_greater_than_the_grain(self):
        self.one_box(6, 33, -2)
        self.one_box(1005, 3030, -2000)

    def test_no_grain(self):
        start = [("box", 2, 3, 0), ("event", 0, 7), ("event", 0, 7), ("event", 0, 8)]
        self.assertEqual(last_of(start, both(0, 1)), [[1, 0], [1, 1, 0], [1, 0], [1, 1, 1]])
        self.assertEqual(last_of(start, both(1, 2)), [[1, 3], [1, 1, 4], [1, -2], [1, 1, 5]])

    def test_numbers_go_by_the_earlier_event_then_by_the_later(self):
        # Grains make each direct way the least one: its number shows where it stands.
        start = [("box", 1, 2, 5), ("box", 1, 2, 5)]
        start += [("event", 0, 0), ("event", 1, 0), ("event", 0, 20), ("event", 1, 20), ("event", 0, 40)]
        rows = [(0, 2), (2, 0), (0, 4), (4, 0), (1, 3), (3, 1), (2, 4), (4, 2)]
        found = last_of(start, [("way", x, y) for x, y in rows])
        self.assertEqual(found, [[1, 1, number] for number in range(8)])

    def test_boxes_of_their_own_have_no_bounds_between_them(self):
        self.assertEqual(last_of(apart(2), both(0, 1)), [[0]] * 4)

    def test_an_event_told_later_moves_the_numbers_of_evidence(self):
        start = apart(2) + [("limit", 0, 1, 3, 4)]
        more = [("way", 0, 1), ("event", 0, 9), ("way", 0, 1), ("event", 0, 9), ("way", 0, 1)]
        self.assertEqual(last_of(start, more)[::2], [[1, 1, 0], [1, 1, 2], [1, 1, 6]])

    def test_two_boxes_of_one_team_have_only_their_order(self):
        start = [("box", 2, 3, 1), ("box", 1, 1, 0), ("event", 0, 50), ("event", 1, 0), ("wakes", 0)]
        start += [("event", 2, 7), ("event", 2, 9), ("limit", 1, 2, 5, 6)]
        wanted = [(2, 0, 0), (3, 0, 0), (2, 3, 9), (3, 2, -2), (1, 2, 6), (2, 1, -5)]
        self.assertEqual(bounds_of(start), wanted)
        self.assertEqual(last_of(start, both(0, 3)), [[0], [0], [1, -2], [1, 2, 3, 0]])

    def test_a_box_that_wakes_twice(self):
        start = [("box", 2, 3, 0), ("event", 0, 5), ("wakes", 0), ("event", 1, 9), ("wakes", 1), ("event", 2, 1)]
        self.assertEqual(bounds_of(start), [(1, 0, 0), (2, 0, 0), (2, 1, 0)])
        start += [("event", 2, 3)]
        wanted = [(1, 0, 0), (2, 0, 0), (3, 0, 0), (2, 1, 0), (3, 1, 0), (2, 3, 6), (3, 2, -4)]
        self.assertEqual(bounds_of(start), wanted)

    def test_a_box_that_wakes_before_its_first_event(self):
        start = [("box", 2, 3, 0), ("wakes", 0), ("event", 1, 5), ("event", 1, 6)]
        self.assertEqual(bounds_of(start), [(0, 1, 3), (1, 0, -2)])


class EvidenceBounds(unittest.TestCase):
    def test_hearing_with_a_greatest_delay(self):
        start = apart(2) + [("wire", 0, 1, 4, 9), ("sent", 0), ("heard", 0, 1)]
        self.assertEqual(last_of(start, both(0, 1)), [[1, 9], [1, 1, 0], [1, -4], [1, 1, 1]])

    def test_hearing_with_no_greatest_delay(self):
        start = apart(2) + [("wire", 0, 1, 4, -1), ("sent", 0), ("heard", 0, 1)]
        self.assertEqual(last_of(start, both(0, 1)), [[0], [0], [1, -4], [1, 1, 0]])
        # It takes one number less, so that the next evidence begins at 1.
        start += [("limit", 0, 1, 3, 8)]
        self.assertEqual(last_of(start, both(0, 1)), [[1, 8], [1, 1, 1], [1, -4], [1, 1, 0]])

    def test_a_delay_of_nothing(self):
        start = apart(2) + [("wire", 0, 1, 0, 0), ("sent", 0), ("heard", 0, 1)]
        self.assertEqual(last_of(start, both(0, 1)), [[1, 0], [1, 1, 0], [1, 0], [1, 1, 1]])

    def test_a_wire_told_anew_holds_for_what_was_heard_before(self):
        start = apart(2) + [("wire", 0, 1, 4, -1), ("sent", 0), ("heard", 0, 1), ("limit", 0, 1, 0, 20)]
        self.assertEqual(last_of(start, both(0, 1)), [[1, 20], [1, 1, 1], [1, -4], [1, 1, 0]])
        start += [("wire", 0, 1, 6, 7)]
        self.assertEqual(last_of(start, both(0, 1)), [[1, 7], [1, 1, 0], [1, -6], [1, 1, 1]])
        start += [("wire", 0, 1, 30, 40)]
        self.assertEqual(last_of(start, [("fits",)]), [[0, 2, 2, 1]])
        start += [("wire", 0, 1, 0, -1)]
        self.assertEqual(last_of(start, both(0, 1)), [[1, 20], [1, 1, 1], [1, 0], [1, 1, 0]])

    def test_a_wire_of_another_direction_changes_nothing(self):
        start = apart(3) + [("wire", 0, 1, 4, 9), ("sent", 0), ("heard", 0, 1)]
        start += [("wire", 1, 0, 0, 1), ("wire", 0, 2, 0, 1), ("wire", 2, 1, 0, 1)]
        self.assertEqual(last_of(start, both(0, 1)), [[1, 9], [1, 1, 0], [1, -4], [1, 1, 1]])

    def test_a_message_heard_often(self):
        start = apart(3) + [("wire", 0, 1, 4, 9), ("wire", 0, 2, 1, 2), ("sent", 0)]
        start += [("heard", 0, 1), ("heard", 0, 2), ("heard", 0, 1)]
        self.assertEqual(last_of(start, both(0, 1)), [[1, 9], [1, 1, 0], [1, -4], [1, 1, 1]])
        self.assertEqual(last_of(start, both(0, 2)), [[1, 2], [1, 1, 2], [1, -1], [1, 1, 3]])
        self.assertEqual(last_of(start, both(1, 2)), [[1, -2], [1, 2, 1, 2], [1, 8], [1, 2, 3, 0]])
        start += [("drop", 0)]
        self.assertEqual(last_of(start, both(0, 1)), [[1, 9], [1, 1, 2], [1, -4], [1, 1, 3]])

    def test_limit(self):
        self.assertEqual(
            last_of(apart(2) + [("limit", 1, 0, -3, 8)], both(1, 0)), [[1, 8], [1, 1, 0], [1, 3], [1, 1, 1]])
        self.assertEqual(
            last_of(apart(2) + [("limit", 0, 1, 5, 5)], both(0, 1)), [[1, 5], [1, 1, 0], [1, -5], [1, 1, 1]])

    def test_limit_within_one_box(self):
        start = [("box", 1, 2, 0), ("event", 0, 0), ("event", 0, 10), ("limit", 0, 1, 12, 13)]
        self.assertEqual(last_of(start, both(0, 1)), [[1, 13], [1, 1, 2], [1, -12], [1, 1, 3]])
        self.assertEqual(last_of(start + [("limit", 1, 0, 0, 0)], [("fits",)]), [[0, 2, 5, 3]])

    def test_dropped_evidence_moves_those_behind_it(self):
        start = apart(4) + [("limit", 0, 1, 0, 1), ("limit", 0, 2, 0, 2), ("limit", 0, 3, 0, 3)]
        ways = [("way", 0, 1), ("way", 0, 2), ("way", 0, 3)]
        self.assertEqual(last_of(start, ways), [[1, 1, 0], [1, 1, 2], [1, 1, 4]])
        self.assertEqual(last_of(start, [("drop", 1)] + ways), [[2], [1, 1, 0], [0], [1, 1, 2]])
        self.assertEqual(last_of(start, [("drop", 1), ("drop", 1)] + ways), [[2], [1], [1, 1, 0], [0], [0]])
        self.assertEqual(last_of(start, [("drop", 2)] + ways), [[2], [1, 1, 0], [1, 1, 2], [0]])
        again = [("drop", 0), ("limit", 0, 1, 0, 1)]
        self.assertEqual(last_of(start, again + ways), [[2], [2], [1, 1, 4], [1, 1, 0], [1, 1, 2]])

    def test_clocks_stand_ahead_of_evidence(self):
        start = [("box", 1, 1, 0), ("box", 1, 1, 0), ("event", 0, 0), ("event", 1, 0), ("limit", 0, 1, 5, 5)]
        start += [("event", 0, 10), ("event", 1, 10)]
        self.assertEqual(last_of(start, [("way", 2, 3)]), [[1, 3, 1, 4, 2]])
        self.assertEqual(last_of(start, [("most", 2, 3)]), [[1, 5]])


class AllBounds(unittest.TestCase):
    # Team 0 is boxes 0 and 2, with events 0, 1, 4; team 1 is box 1, with events 2, 3.
    START = [
        ("box", 2, 3, 1), ("box", 1, 4, 0), ("event", 0, 10), ("press", 0, 10), ("event", 1, 5), ("report", 1, 8),
        ("wakes", 0), ("press", 2, 0), ("wire", 0, 1, 7, -1), ("wire", 1, 0, 2, 90), ("sent", 1), ("sent", 2),
        ("heard", 0, 3), ("limit", 4, 2, -60, 50), ("heard", 1, 4),
    ]
    CLOCKS = [(0, 1, 3), (1, 0, 0), (4, 0, 0), (4, 1, 0), (2, 3, 12), (3, 2, -3)]

    def test_nothing_told(self):
        self.assertEqual(answered([("bounds",), ("box", 1, 1, 0), ("bounds",), ("event", 0, 3), ("bounds",)])[::2],
                         [[0], [0], [0]])

    def test_their_order_and_numbers(self):
        wanted = self.CLOCKS + [(3, 1, -7), (4, 2, 50), (2, 4, 60), (2, 4, 90), (4, 2, -2)]
        self.assertEqual(asked(self.START, "bounds"), [11] + [number for row in wanted for number in row])

    def test_a_wire_told_anew(self):
        wanted = self.CLOCKS + [(1, 3, 20), (3, 1, -6), (4, 2, 50), (2, 4, 60), (2, 4, 90), (4, 2, -2)]
        self.assertEqual(bounds_of(self.START + [("wire", 2, 1, 6, 20)]), wanted)
        wanted = self.CLOCKS + [(3, 1, -7), (4, 2, 50), (2, 4, 60), (4, 2, 0)]
        self.assertEqual(bounds_of(self.START + [("wire", 1, 2, 0, -1)]), wanted)

    def test_evidence_dropped(self):
        heard, limit, last = [(3, 1, -7)], [(4, 2, 50), (2, 4, 60)], [(2, 4, 90), (4, 2, -2)]
        self.assertEqual(bounds_of(self.START + [("drop", 0)]), self.CLOCKS + limit + last)
        self.assertEqual(bounds_of(self.START + [("drop", 1)]), self.CLOCKS + heard + last)
        self.assertEqual(bounds_of(self.START + [("drop", 2)]), self.CLOCKS + heard + limit)
        again = [("drop", 0), ("heard", 0, 3)]
        self.assertEqual(bounds_of(self.START + again), self.CLOCKS + limit + last + heard)

    def test_while_there_is_no_history(self):
        wanted = bounds_of(self.START) + [(0, 1, 9), (1, 0, -9)]
        self.assertEqual(bounds_of(self.START + [("limit", 0, 1, 9, 9)]), wanted)
        self.assertEqual(asked(self.START + [("limit", 0, 1, 9, 9)], "most", 0, 1), [-8])

    def test_fits_way_and_adds_speak_of_these_numbers(self):
        found = last_of(self.START, [("way", 2, 0), ("most", 2, 0), adds(4, 6, 1), ("way", 2, 4), adds(8)])
        self.assertEqual(found, [[1, 3, 4, 6, 1], [1, 5], [1, 2, 0, 5], [1, 1, 8], [1, 2, 4, 60]])
        found = last_of(self.START + [("limit", 0, 4, -5, -1)], [("fits",), adds(11, 2), adds(2, 11)])
        self.assertEqual(found, [[0, 2, 11, 2], [1, 0, 0, -1], [1, 4, 4, -1]])


class Rings(unittest.TestCase):
    def test_the_document_s_kinds_of_bounds_break_each_other(self):
        # The clock says 20 to 60 between 0 and 1, the limit less.
        start = [("box", 2, 6, 0), ("event", 0, 5), ("event", 0, 15)]
        self.assertEqual(answered(start + [("limit", 0, 1, 0, 20), ("fits",)])[-1], [1])
        self.assertEqual(answered(start + [("limit", 0, 1, 0, 19), ("fits",)])[-1], [0, 2, 2, 1])
        self.assertEqual(answered(start + [("limit", 0, 1, 60, 99), ("fits",)])[-1], [1])
        self.assertEqual(answered(start + [("limit", 0, 1, 61, 99), ("fits",)])[-1], [0, 2, 0, 3])

    def test_a_message_heard_before_it_was_sent(self):
        start = [("box", 1, 1, 0)] * 2 + [("event", 0, 0), ("event", 1, 0), ("event", 0, 10), ("event", 1, 10)]
        start += [("wire", 0, 1, 1, -1), ("wire", 1, 0, 1, -1), ("sent", 2), ("sent", 3)]
        start += [("heard", 0, 1), ("heard", 1, 0)]
        # From 0 back to 3, from 3 to 1 by the clock, back to 2, and to 0.
        self.assertEqual(last_of(start, [("fits",)]), [[0, 4, 5, 3, 4, 1]])


if __name__ == "__main__":
    unittest.main()
