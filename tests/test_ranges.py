"""The edges of each range, the number beyond each, the farthest numbers, and how many there may be of each thing."""

import unittest

from tests.lines import HUGE, answered, apart, last_of

# All is there that may be but one message and one piece of evidence.
NEARLY = (
    [("box", 1, 1, 0)] * 8 + [("event", k % 8, 0) for k in range(16)] + [("wire", 0, 7, 0, -1), ("wire", 7, 0, 0, -1)]
    + [("sent", 0)] * 11 + [("limit", 0, 1, -9, 9)] * 23
)
# Each event is surely before those told behind it.
RISING = [("box", 1, 1, 0)] + [("event", 0, k) for k in range(16)]
# Messages 0 to 10 are sent by box 0, message 11 by box 7; each may be heard by all the others.
HEARABLE = (
    [("box", 1, 1, 0)] * 8 + [("wire", i, j, 0, -1) for i in (0, 7) for j in range(8) if i != j]
    + [("press", 0, 0), ("event", 7, 0)] + [("sent", 0)] * 11 + [("sent", 1)]
)
BOX, EVENT, MESSAGE, EVIDENCE = (0, 7), (0, 15), (0, 11), (0, 23)
STAMP, SPAN = (0, 10 ** 9), (-10 ** 15, 10 ** 15)

# The calls ahead, a call that is taken, and for each of its numbers the least and the greatest one of its range.
# A number is set to an edge while the others stay as they are, so these must go with either edge.
EDGES = [
    ([], ("box", 1, 100000, 0), [(1, 100000), (1, 100000), (0, 1000)]),
    (NEARLY, ("wire", 2, 3, 0, 10 ** 12), [BOX, BOX, (0, 10 ** 12), (-1, 10 ** 12)]),
    ([("box", 1, 1, 0)] * 8, ("event", 0, 0), [BOX, STAMP]),
    ([("box", 1, 1, 0)] * 8, ("press", 0, 0), [BOX, STAMP]),
    (NEARLY, ("sent", 0), [EVENT]),
    (NEARLY + [("sent", 0)], ("heard", 0, 7), [MESSAGE, (7, 15)]),
    (NEARLY + [("sent", 7)], ("heard", 11, 0), [None, (0, 8)]),
    (NEARLY, ("limit", 2, 3, -10 ** 15, 10 ** 15), [EVENT, EVENT, SPAN, SPAN]),
    (NEARLY + [("limit", 0, 1, -9, 9)], ("drop", 0), [EVIDENCE]),
    (NEARLY, ("most", 2, 3), [EVENT, EVENT]),
    (NEARLY, ("sure", 2, 3), [EVENT, EVENT]),
    (NEARLY, ("way", 2, 3), [EVENT, EVENT]),
    (NEARLY, ("late", 0), [EVENT]),
    (RISING, ("needed", 0, 15), [(0, 14), (1, 15)]),
    (HEARABLE, ("would", 0, 1, 0), [MESSAGE, (1, 7), STAMP]),
    (HEARABLE, ("would", 11, 0, 0), [None, (0, 6), STAMP]),
    ([("box", 1, 1, 0)] * 8, ("report", 0, 0), [BOX, STAMP]),
    ([("box", 1, 1, 0)] * 7, ("wakes", 0), [(0, 6)]),
]
# Not all numbers of a range are taken there, as they don't all go together; what is beyond it is refused all the same.
BEYOND = {
    ("heard", 2): EVENT, ("needed", 1): EVENT, ("needed", 2): EVENT, ("would", 2): BOX, ("wakes", 1): BOX,
}


def changed(call, place, number):
    return call[:place] + (number,) + call[place + 1:]


class Ranges(unittest.TestCase):
    def test_edges_are_taken(self):
        for prefix, call, ranges in EDGES:
            for place, limits in enumerate(ranges, 1):
                for number in limits or ():
                    with self.subTest(call=call, place=place, number=number):
                        self.assertGreaterEqual(last_of(prefix, [changed(call, place, number)])[0][0], 0)

    def test_beyond_is_refused(self):
        for prefix, call, ranges in EDGES:
            for place, limits in enumerate(ranges, 1):
                if limits is None:
                    continue
                low, high = BEYOND.get((call[0], place), limits)
                for number in (low - 1, high + 1, -HUGE, HUGE, 1 - HUGE, HUGE - 1):
                    with self.subTest(call=call, place=place, number=number):
                        self.assertEqual(last_of(prefix, [changed(call, place, number)]), [[-1]])

    def test_the_fast_rate_begins_at_the_slow_one(self):
        calls = [("box", 77, 77, 0), ("box", 77, 76, 0), ("box", 77, 78, 0), ("box", 100000, 99999, 0)]
        self.assertEqual(answered(calls), [[0], [-1], [1], [-1]])
        self.assertEqual(answered([("box", 0, 0, 0), ("box", -HUGE, -HUGE, -HUGE)]), [[-1], [-1]])

    def test_how_many_there_may_be(self):
        self.assertEqual(answered([("box", 1, 1, 0)] * 9), [[k] for k in range(8)] + [[-7]])
        start = [("box", 1, 1, 0)] * 2
        for name in ("event", "press", "report"):
            events = [(name, k % 2, 3) for k in range(17)]
            self.assertEqual(last_of(start, events), [[k] for k in range(16)] + [[-7]])
        self.assertEqual(last_of(apart(1), [("sent", 0)] * 13), [[k] for k in range(12)] + [[-7]])
        two = apart(2) + [("wire", 0, 1, 0, 9), ("sent", 0)]
        for call in (("heard", 0, 1), ("limit", 0, 1, 0, 9)):
            self.assertEqual(last_of(two, [call] * 25), [[k] for k in range(24)] + [[-7]])
        both = [("heard", 0, 1), ("limit", 0, 1, 0, 9)] * 12
        self.assertEqual(last_of(two, both + [("heard", 0, 1), ("limit", 0, 1, 0, 9)])[24:], [[-7], [-7]])

    def test_there_is_room_again_behind_a_drop(self):
        full = apart(2) + [("limit", 0, 1, 0, 9)] * 24
        more = [("limit", 0, 1, 0, 9), ("drop", 5), ("limit", 0, 1, 0, 9), ("limit", 0, 1, 0, 9)]
        self.assertEqual(last_of(full, more), [[-7], [23], [23], [-7]])

    def test_the_greatest_sums_are_whole(self):
        calls = [("box", 100000, 100000, 1000), ("event", 0, 0), ("event", 0, 10 ** 9)]
        found = last_of(calls, [("most", 0, 1), ("most", 1, 0)])
        self.assertEqual(found, [[1, (10 ** 9 + 1000) * 100000], [1, -(10 ** 9 - 1000) * 100000]])
        row = [("limit", k, k + 1, -10 ** 15, 10 ** 15) for k in range(7)]
        found = last_of(apart(8) + row, [("most", 0, 7), ("most", 7, 0)])
        self.assertEqual(found, [[1, 7 * 10 ** 15], [1, 7 * 10 ** 15]])
        wires = [("wire", 0, 1, 10 ** 12, 10 ** 12), ("sent", 0), ("heard", 0, 1)]
        found = last_of(apart(2) + wires, [("most", 0, 1), ("most", 1, 0)])
        self.assertEqual(found, [[1, 10 ** 12], [1, -10 ** 12]])


if __name__ == "__main__":
    unittest.main()
