"""adds and told; what a line answers on which nothing has been told."""

import unittest

from tests.lines import HUGE, adds, answered, apart, asked, bounds_of, check, first, last_of, limits
from tests.probing import BROKEN, STATE, WOKEN, Refusing

# 0: 0 to 1 of 5, 1: 1 to 0 of -3, 2: 1 to 2 of 4, 3: 2 to 1 of 2.
ROW = apart(3) + limits((0, 1, 3, 5), (1, 2, -2, 4))


class NothingTold(unittest.TestCase):
    def test_each_call_that_asks(self):
        calls = [("bounds",), ("history",), check(), adds(), ("told",), first(), ("ruled",), ("fits",)]
        self.assertEqual(answered(calls), [[0], [0], [1], [0], [0, 0], [-9], [-9], [1]])

    def test_each_row_with_numbers(self):
        self.assertEqual(answered([check(0), adds(0), first(0)]), [[-2], [-2], [-2]])

    def test_each_call_that_needs_something(self):
        calls = [("late", 0), ("needed", 0, 0), ("would", 0, 0, 0), ("report", 0, 0), ("wakes", 0)]
        self.assertEqual(answered(calls), [[-4]] * 5)


class Adds(Refusing, unittest.TestCase):
    def test_a_way(self):
        for numbers, wanted in (
            ((0,), [1, 0, 1, 5]), ((1,), [1, 1, 0, -3]), ((0, 2), [1, 0, 2, 9]), ((3, 1), [1, 2, 0, -1]),
            ((2, 3, 1, 0, 2), [1, 1, 2, 12]),
        ):
            self.assertEqual(asked(ROW, *adds(*numbers)), wanted)

    def test_a_ring(self):
        self.assertEqual(last_of(ROW, [adds(0, 1), adds(1, 0), adds(2, 3)]), [[1, 0, 0, 2], [1, 1, 1, 2], [1, 1, 1, 6]])
        self.assertEqual(asked(ROW, *adds(0, 2, 3, 1)), [1, 0, 0, 8])

    def test_an_empty_row(self):
        self.assertEqual(asked(ROW, *adds()), [0])
        self.assertEqual(asked(ROW + BROKEN, *adds()), [0])

    def test_no_way(self):
        for numbers in ((0, 0), (0, 3), (2, 0), (1, 2), (0, 2, 1), (0, 1, 1), (1, 0, 1, 3), (3, 1, 2)):
            self.assertEqual(asked(ROW, *adds(*numbers)), [0])

    def test_a_number_that_is_no_bound_s(self):
        for numbers in ((4,), (-1,), (0, 4), (4, 0), (0, 0, 4), (0, -1), (HUGE,), (-HUGE,), (0,) * 59 + (4,)):
            self.refused(ROW, adds(*numbers), -2)
        self.refused(apart(2), adds(0), -2)
        self.refused(ROW + BROKEN, adds(8), -2)

    def test_sixty_bounds(self):
        self.assertEqual(asked(ROW, *adds(*[0, 1] * 30)), [1, 0, 0, 60])
        self.assertEqual(asked(ROW, *adds(*[1, 0] * 29 + [1, 3])), [0])

    def test_a_ring_told_by_fits_is_below_0(self):
        for start in (ROW + BROKEN, ROW + limits((0, 2, 10, 11)), STATE + BROKEN, WOKEN + limits((2, 5, -9, -1))):
            fits = asked(start, "fits")
            self.assertEqual(fits[:2], [0, len(fits) - 2])
            found = asked(start, *adds(*fits[2:]))
            self.assertEqual((found[0], found[1]), (1, found[2]))
            self.assertLess(found[3], 0)

    def test_a_way_told_has_the_sum_that_most_tells(self):
        for start, size in ((ROW, 3), (STATE, 5), (WOKEN, 6)):
            for x, y in [(x, y) for x in range(size) for y in range(size) if x != y]:
                most, way = last_of(start, [("most", x, y), ("way", x, y)])
                self.assertEqual(most[0], way[0])
                if way[0] == 1:
                    self.assertEqual(asked(start, *adds(*way[2:])), [1, x, y, most[1]])

    def test_while_there_is_no_history(self):
        self.assertEqual(asked(ROW + BROKEN, *adds(4, 1)), [1, 0, 0, 898])

    def test_one_bound_is_as_bounds_tells_it(self):
        for start in (ROW, STATE, WOKEN):
            rows = bounds_of(start)
            found = last_of(start, [adds(number) for number in range(len(rows))])
            self.assertEqual(found, [[1, *row] for row in rows])


class Told(unittest.TestCase):
    def test_boxes_alone(self):
        self.assertEqual(asked([("box", 2, 3, 1), ("box", 7, 9, 1000)], "told"), [2, 2, 3, 1, 0, 7, 9, 1000, 1, 0])

    def test_boxes_with_their_teams_after_wakes(self):
        start = [("box", 2, 3, 1), ("box", 5, 6, 4), ("wakes", 1), ("wakes", 0), ("wakes", 2), ("box", 1, 1, 0)]
        wanted = [6, 2, 3, 1, 0, 5, 6, 4, 1, 5, 6, 4, 1, 2, 3, 1, 0, 5, 6, 4, 1, 1, 1, 0, 5, 0]
        self.assertEqual(asked(start, "told"), wanted)

    def test_events_of_the_three_kinds(self):
        start = [("box", 2, 3, 1), ("press", 0, 4), ("wakes", 0), ("event", 1, 2), ("report", 1, 10 ** 9)]
        self.assertEqual(asked(start, "told"), [2, 2, 3, 1, 0, 2, 3, 1, 0, 3, 0, 4, 1, 1, 2, 0, 1, 10 ** 9, 2])

    def test_all_that_there_may_be(self):
        start = [("box", 1, 1, 0)] * 8 + [("press", k % 8, k) for k in range(16)]
        boxes = [number for k in range(8) for number in (1, 1, 0, k)]
        events = [number for k in range(16) for number in (k % 8, k, 1)]
        self.assertEqual(asked(start, "told"), [8] + boxes + [16] + events)

    def test_what_was_refused_is_not_told(self):
        start = [("box", 1, 1, 0), ("event", 0, 4)]
        wrong = [("event", 0, 3), ("press", 1, 9), ("report", 0, -1), ("box", 2, 1, 0), ("wakes", 1)]
        self.assertEqual(asked(start + wrong, "told"), asked(start, "told"))

    def test_while_there_is_no_history(self):
        self.assertEqual(asked(STATE + BROKEN, "told"), asked(STATE, "told"))


if __name__ == "__main__":
    unittest.main()
