"""most, sure, way and fits: which sum, which way and which ring is told."""

import unittest

from tests.lines import answered, apart, last_of


def asked(x, y):
    return [("most", x, y), ("sure", x, y), ("way", x, y)]


class Plain(unittest.TestCase):
    def test_an_event_and_itself(self):
        start = [("box", 1, 5, 3), ("event", 0, 0), ("event", 0, 0), ("event", 0, 9)]
        for x in range(3):
            self.assertEqual(last_of(start, asked(x, x)), [[1, 0], [1], [1, 0]])
        # Rings of the sum 0 don't make that way longer.
        start = apart(2) + [("limit", 0, 1, 5, 5)]
        self.assertEqual(last_of(start, asked(0, 0)), [[1, 0], [1], [1, 0]])
        self.assertEqual(last_of(apart(1), asked(0, 0)), [[1, 0], [1], [1, 0]])

    def test_no_way(self):
        start = apart(3) + [("limit", 0, 1, 1, 2)]
        for x, y in ((0, 2), (2, 0), (1, 2), (2, 1)):
            self.assertEqual(last_of(start, asked(x, y)), [[0], [0], [0]])

    def test_a_way_in_one_direction_alone(self):
        start = apart(2) + [("wire", 0, 1, 4, -1), ("sent", 0), ("heard", 0, 1)]
        self.assertEqual(last_of(start, asked(0, 1)), [[0], [2], [0]])
        self.assertEqual(last_of(start, asked(1, 0)), [[1, -4], [0], [1, 1, 0]])

    def test_sure(self):
        for lo, hi, forth, back in (
            (1, 5, 2, 0), (0, 5, 1, 0), (-1, 5, 0, 0), (0, 0, 1, 1), (-5, 0, 0, 1), (-5, -1, 0, 2), (-5, 1, 0, 0),
        ):
            with self.subTest(lo=lo, hi=hi):
                start = apart(2) + [("limit", 0, 1, lo, hi)]
                self.assertEqual(last_of(start, [("sure", 0, 1), ("sure", 1, 0)]), [[forth], [back]])

    def test_sure_of_one_box(self):
        for d, wanted in ((0, 1), (2, 1), (3, 1), (4, 2)):
            start = [("box", 1, 5, 3), ("event", 0, 0), ("press", 0, d)]
            self.assertEqual(last_of(start, [("sure", 0, 1), ("sure", 1, 0)]), [[wanted], [0]])

    def test_sure_over_other_events(self):
        start = apart(3) + [("limit", 0, 1, 3, 9), ("limit", 1, 2, -2, 9)]
        self.assertEqual(last_of(start, [("sure", 0, 2), ("sure", 2, 0)]), [[2], [0]])
        start = apart(3) + [("limit", 0, 1, 3, 9), ("limit", 1, 2, -3, 9)]
        self.assertEqual(last_of(start, [("sure", 0, 2)]), [[1]])

    def test_two_presses_and_a_message(self):
        # The press of box 0 is at 100, its message leaves then; box 1 hears it, and presses 3 later by its clock.
        start = [("box", 10, 11, 0), ("box", 9, 10, 1), ("wire", 0, 1, 5, 20), ("press", 0, 100), ("event", 1, 7)]
        start += [("press", 1, 10), ("sent", 0), ("heard", 0, 1)]
        self.assertEqual(last_of(start, asked(0, 2)), [[1, 60], [2], [1, 2, 2, 0]])
        self.assertEqual(last_of(start, asked(2, 0)), [[1, -23], [0], [1, 2, 1, 3]])


class ToldWays(unittest.TestCase):
    def test_the_least_sum_goes_ahead_of_the_fewest_bounds(self):
        start = apart(3) + [("limit", 0, 2, 0, 9), ("limit", 0, 1, 0, 4), ("limit", 1, 2, 0, 4)]
        self.assertEqual(last_of(start, asked(0, 2)), [[1, 8], [1], [1, 2, 2, 4]])

    def test_the_fewest_bounds_of_one_sum(self):
        start = apart(3) + [("limit", 0, 1, 0, 4), ("limit", 1, 2, 0, 4), ("limit", 0, 2, 0, 8)]
        self.assertEqual(last_of(start, [("way", 0, 2)]), [[1, 1, 4]])

    def test_the_fewest_of_three_ways(self):
        start = apart(4) + [("limit", 0, 1, 0, 1), ("limit", 1, 2, 0, 1), ("limit", 2, 3, 0, 1)]
        self.assertEqual(last_of(start, [("way", 0, 3)]), [[1, 3, 0, 2, 4]])
        start += [("limit", 1, 3, 0, 2)]
        self.assertEqual(last_of(start, [("way", 0, 3)]), [[1, 2, 0, 6]])
        start += [("limit", 0, 3, 0, 3)]
        self.assertEqual(last_of(start, [("way", 0, 3)]), [[1, 1, 8]])

    def test_the_lesser_number_of_two_alike(self):
        start = apart(2) + [("limit", 0, 1, 0, 9), ("limit", 0, 1, 2, 6), ("limit", 0, 1, 2, 6)]
        self.assertEqual(last_of(start, [("way", 0, 1), ("way", 1, 0)]), [[1, 1, 2], [1, 1, 3]])

    def test_the_first_bound_that_differs_tells(self):
        # By 1: bounds 2 and 4. By 2: bounds 0 and 6, of the same sum.
        start = apart(4) + [("limit", 0, 2, 0, 5), ("limit", 0, 1, 0, 4), ("limit", 1, 3, 0, 6), ("limit", 2, 3, 0, 5)]
        self.assertEqual(last_of(start, [("most", 0, 3), ("way", 0, 3)]), [[1, 10], [1, 2, 0, 6]])

    def test_a_lesser_number_that_leads_to_more_is_not_taken(self):
        start = apart(4) + [("limit", 0, 2, 0, 5), ("limit", 0, 1, 0, 4), ("limit", 1, 3, 0, 6), ("limit", 2, 3, 0, 6)]
        self.assertEqual(last_of(start, [("way", 0, 3)]), [[1, 2, 2, 4]])

    def test_a_second_bound_that_differs_tells(self):
        start = apart(4) + [("limit", 0, 1, 0, 1), ("limit", 2, 3, 0, 2), ("limit", 1, 3, 0, 3)]
        start += [("limit", 1, 3, 0, 3), ("limit", 0, 1, 0, 1)]
        self.assertEqual(last_of(start, [("way", 0, 3)]), [[1, 2, 0, 4]])

    def test_a_ring_of_the_sum_0_is_not_walked(self):
        start = apart(3) + [("limit", 0, 1, 5, 5), ("limit", 1, 2, 1, 1)]
        self.assertEqual(last_of(start, [("way", 0, 2), ("way", 2, 0)]), [[1, 2, 0, 2], [1, 2, 3, 1]])

    def test_a_way_over_sixteen_events(self):
        start = [("box", 1, 1, 0)] * 8 + [("event", k // 2, 10 * (k % 2)) for k in range(16)]
        start += [("limit", k, k + 1, 1, 1) for k in range(1, 15, 2)]
        found = last_of(start, [("most", 0, 15), ("way", 0, 15), ("sure", 0, 15), ("most", 15, 0)])
        numbers = [0]
        for k in range(7):
            numbers += [16 + 2 * k, 2 * k + 2]
        self.assertEqual(found, [[1, 87], [1, 15] + numbers, [2], [1, -87]])


class Fits(unittest.TestCase):
    def fits(self, count, limits, wanted):
        start = apart(count) + [("limit",) + limit for limit in limits]
        self.assertEqual(last_of(start, [("fits",)]), [wanted])

    def test_nothing_told(self):
        self.assertEqual(answered([("fits",)]), [[1]])
        self.assertEqual(answered([("box", 1, 1, 0), ("fits",)])[-1], [1])

    def test_fits(self):
        self.fits(2, [(0, 1, 3, 4)], [1])
        self.fits(3, [(0, 1, 3, 4), (1, 2, 1, 1), (0, 2, 5, 9)], [1])

    def test_a_ring_of_the_sum_0_is_none(self):
        self.fits(2, [(0, 1, 3, 4), (0, 1, 4, 5)], [1])
        self.fits(2, [(0, 1, 3, 4), (0, 1, 5, 6)], [0, 2, 0, 3])

    def test_it_begins_at_its_least_event(self):
        self.fits(2, [(0, 1, 5, 6), (0, 1, 0, 2)], [0, 2, 2, 1])
        self.fits(4, [(3, 2, 5, 6), (3, 2, 0, 2)], [0, 2, 1, 2])
        self.fits(3, [(1, 2, 0, 3), (0, 1, 0, 2), (0, 2, 6, 9)], [0, 3, 2, 0, 5])

    def test_fewest_bounds_go_ahead_of_all_else(self):
        # The ring over 0, 1 and 2 has the least sum and the least event, that of 3 and 4 has the fewest bounds.
        three = [(0, 1, 0, 1), (1, 2, 0, 1), (0, 2, 90, 99)]
        self.fits(5, three, [0, 3, 0, 2, 5])
        self.fits(5, three + [(3, 4, 2, 3), (3, 4, 0, 1)], [0, 2, 8, 7])

    def test_the_least_event_goes_ahead_of_the_least_sum(self):
        self.fits(4, [(1, 2, 50, 60), (1, 2, 0, 1), (0, 3, 2, 3), (0, 3, 0, 1)], [0, 2, 6, 5])

    def test_the_least_sum_goes_ahead_of_the_lesser_number(self):
        self.fits(3, [(0, 1, 5, 6), (0, 1, 0, 4), (0, 2, 5, 6), (0, 2, 0, 2)], [0, 2, 6, 5])
        self.fits(2, [(0, 1, 5, 5), (0, 1, 3, 3), (0, 1, 1, 1)], [0, 2, 4, 1])

    def test_the_lesser_number(self):
        self.fits(2, [(0, 1, 5, 6), (0, 1, 0, 2), (0, 1, 5, 6), (0, 1, 0, 2)], [0, 2, 2, 1])
        # 0, 1 and 0, 2 break alike; the bound from 0 of the second has the lesser number.
        self.fits(3, [(0, 2, 0, 2), (0, 1, 0, 2), (0, 1, 5, 6), (0, 2, 5, 6)], [0, 2, 0, 7])

    def test_no_history_is_refused(self):
        start = apart(3) + [("limit", 0, 1, 5, 6), ("limit", 0, 1, 0, 2)]
        # Also of events that the ring doesn't touch, and of an event and itself.
        for x, y in ((0, 1), (1, 0), (0, 2), (2, 0), (2, 2)):
            self.assertEqual(last_of(start, asked(x, y)), [[-8]] * 3)

    def test_a_ring_over_sixteen_events(self):
        start = [("box", 1, 1, 0)] * 8 + [("event", k // 2, 10 * (k % 2)) for k in range(16)]
        start += [("limit", k, k + 1, 1, 1) for k in range(1, 15, 2)]
        self.assertEqual(last_of(start, [("limit", 0, 15, 87, 87), ("fits",)])[1], [1])
        forth = [0]
        for k in range(7):
            forth += [16 + 2 * k, 2 * k + 2]
        found = last_of(start, [("limit", 0, 15, 88, 90), ("fits",)])[1]
        self.assertEqual(found, [0, 16] + forth + [31])


if __name__ == "__main__":
    unittest.main()
