"""Each call: an ordinary answer, each refusal alone, which of two is answered, and that nothing changes by it."""

import unittest

from firstpress.record import PLAIN, Record
from firstpress.telling import tell
from tests.lines import answered, apart, last_of

# Boxes 0, 1 and 2; events 0 and 3 of box 0, 1 and 4 of box 1, 2 of box 2; wires from 0 to 1 and back.
# Evidence: message 0 heard at 1, a limit, message 1 heard at 3.
STATE = [
    ("box", 2, 3, 1), ("box", 1, 4, 2), ("box", 5, 5, 0),
    ("wire", 0, 1, 10, 40), ("wire", 1, 0, 3, -1),
    ("event", 0, 100), ("press", 1, 50), ("event", 2, 7), ("press", 0, 200), ("event", 1, 60),
    ("sent", 0), ("sent", 1), ("heard", 0, 1), ("limit", 2, 3, -5, 70), ("heard", 1, 3),
]
BOXES_FULL = [("box", 1, 1, 0)] * 8
EVENTS_FULL = [("box", 1, 1, 0)] * 2 + [("event", 0, 5)] * 16
MESSAGES_FULL = STATE + [("sent", 2)] * 10
EVIDENCE_FULL = STATE + [("limit", 0, 1, 0, 500)] * 21
# Two limits that can't both hold.
BROKEN = [("limit", 0, 1, 900, 901), ("limit", 0, 1, -901, -900)]


def pairs():
    return [(x, y) for x in range(5) for y in range(5) if x != y]


def probe():
    """Calls whose answers differ if anything told so far differs."""
    calls = [("fits",)]
    for x, y in pairs():
        calls += [("most", x, y), ("way", x, y)]
    calls += [("sent", 0), ("heard", 0, 4), ("heard", 1, 0), ("heard", 0, 2), ("limit", 0, 2, -9, 9)]
    calls += [("most", 0, 4), ("most", 1, 0), ("most", 0, 2), ("way", 0, 2), ("drop", 0), ("fits",)]
    calls += [("event", 0, 200), ("event", 1, 60), ("event", 0, 199), ("box", 1, 1, 0)]
    return calls


class Refusals(unittest.TestCase):
    def refused(self, prefix, call, refusal):
        with self.subTest(call=call, refusal=refusal):
            found = last_of(prefix, [call] + probe())
            self.assertEqual(found[0], [refusal])
            self.assertEqual(found[1:], last_of(prefix, probe()), "something changed by a refusal")

    def test_probe_sees_changes(self):
        changes = [
            ("box", 1, 1, 0), ("wire", 0, 1, 10, 41), ("wire", 0, 2, 0, 0), ("event", 0, 200), ("press", 1, 61),
            ("sent", 0), ("heard", 1, 0), ("limit", 0, 1, 0, 0), ("drop", 2),
        ]
        for change in changes:
            with self.subTest(change=change):
                self.assertNotEqual(last_of(STATE + [change], probe()), last_of(STATE, probe()))

    def test_box(self):
        self.assertEqual(last_of(STATE, [("box", 1, 2, 3)]), [[3]])
        self.assertEqual(answered(BOXES_FULL), [[k] for k in range(8)])
        for wrong in ((0, 2, 0), (3, 2, 0), (1, 100001, 0), (1, 1, -1), (1, 1, 1001)):
            self.refused(STATE, ("box",) + wrong, -1)
            self.refused(BOXES_FULL, ("box",) + wrong, -1)
        self.refused(BOXES_FULL, ("box", 1, 1, 0), -7)

    def test_wire(self):
        for right in ((2, 0, 5, 9), (2, 0, 5, 5), (2, 0, 5, -1), (2, 0, 0, 0), (0, 1, 1, 2)):
            self.assertEqual(last_of(STATE, [("wire",) + right]), [[0]])
        self.refused(STATE, ("wire", 1, 1, 0, 0), -5)
        self.refused(STATE, ("wire", 0, 1, 5, 4), -6)
        self.refused(STATE, ("wire", 0, 1, 1, 0), -6)
        self.refused(STATE, ("wire", 3, 1, 0, 0), -4)
        self.refused(STATE, ("wire", 1, 7, 0, 0), -4)
        self.refused(STATE, ("wire", 8, 1, 0, 0), -1)
        self.refused(STATE, ("wire", 0, 1, -1, -1), -1)
        self.refused(STATE, ("wire", 0, 1, 0, -2), -1)

    def test_wire_order(self):
        self.refused(STATE, ("wire", 1, 1, 5, 4), -5)
        self.refused(STATE, ("wire", 3, 3, 5, 4), -4)
        self.refused(STATE, ("wire", 3, 3, 5, -2), -1)
        self.refused(STATE, ("wire", 3, -1, 5, 4), -1)
        self.refused(STATE, ("wire", 1, 1, -1, 4), -1)

    def test_event_and_press(self):
        for name in ("event", "press"):
            self.assertEqual(last_of(STATE, [(name, 0, 200), (name, 2, 8), (name, 1, 10 ** 9)]), [[5], [6], [7]])
            self.refused(STATE, (name, 0, 199), -3)
            self.refused(STATE, (name, 1, 0), -3)
            self.refused(STATE, (name, 3, 300), -4)
            self.refused(STATE, (name, 8, 300), -1)
            self.refused(STATE, (name, 0, -1), -1)
            self.refused(EVENTS_FULL, (name, 0, 5), -7)
            self.refused(EVENTS_FULL, (name, 1, 0), -7)

    def test_event_and_press_order(self):
        for name in ("event", "press"):
            self.refused(EVENTS_FULL, (name, 0, 4), -3)
            self.refused(EVENTS_FULL, (name, 2, 4), -4)
            self.refused(STATE, (name, 3, -1), -1)
            self.refused(STATE, (name, -1, 0), -1)
            self.refused(EVENTS_FULL, (name, 0, -1), -1)
            self.refused(EVENTS_FULL, (name, 2, 10 ** 9 + 1), -1)

    def test_stamps_are_of_each_box_alone(self):
        calls = [("box", 1, 1, 0)] * 2 + [("event", 0, 9), ("press", 1, 3), ("event", 0, 9), ("press", 1, 2)]
        self.assertEqual(answered(calls)[2:], [[0], [1], [2], [-3]])

    def test_a_woken_box_is_refused_first(self):
        record = Record()
        tell(record, 0, [1, 1, 0])
        tell(record, 2, [0, 5])
        record.boxes[0].woken = True
        for number in (2, 3):
            self.assertEqual(tell(record, number, [0, 5]), [-11])
            self.assertEqual(tell(record, number, [0, 4]), [-11])
        self.assertEqual([(event.box, event.stamp, event.kind) for event in record.events], [(0, 5, PLAIN)])

    def test_presses_are_kept_as_such(self):
        record = Record()
        for number, given in ((0, [1, 1, 0]), (2, [0, 5]), (3, [0, 6])):
            tell(record, number, given)
        self.assertEqual([event.kind for event in record.events], [0, 1])

    def test_sent(self):
        self.assertEqual(last_of(STATE, [("sent", 0), ("sent", 0), ("sent", 4)]), [[2], [3], [4]])
        self.refused(STATE, ("sent", 5), -4)
        self.refused(STATE, ("sent", 16), -1)
        self.refused(STATE, ("sent", -1), -1)
        self.refused(MESSAGES_FULL, ("sent", 0), -7)
        self.refused(MESSAGES_FULL, ("sent", 5), -4)
        self.refused(MESSAGES_FULL, ("sent", 16), -1)

    def test_heard(self):
        self.assertEqual(last_of(STATE, [("heard", 0, 4), ("heard", 0, 4), ("heard", 1, 0)]), [[3], [4], [5]])
        self.refused(STATE, ("heard", 0, 0), -5)
        self.refused(STATE, ("heard", 0, 3), -5)
        self.refused(STATE, ("heard", 0, 2), -6)
        self.refused(STATE, ("heard", 2, 1), -4)
        self.refused(STATE, ("heard", 0, 5), -4)
        self.refused(STATE, ("heard", 12, 1), -1)
        self.refused(STATE, ("heard", 0, 16), -1)
        self.refused(EVIDENCE_FULL, ("heard", 0, 1), -7)

    def test_heard_order(self):
        # No wire leads from a team to itself: -5 is told ahead of -6.
        self.refused(EVIDENCE_FULL, ("heard", 0, 3), -5)
        self.refused(EVIDENCE_FULL, ("heard", 0, 2), -6)
        self.refused(EVIDENCE_FULL, ("heard", 2, 0), -4)
        self.refused(EVIDENCE_FULL, ("heard", 2, -1), -1)
        self.refused(EVIDENCE_FULL, ("heard", -1, 5), -1)

    def test_a_wire_back_is_none_there(self):
        calls = apart(2) + [("wire", 0, 1, 0, 5), ("sent", 1), ("heard", 0, 0)]
        self.assertEqual(answered(calls)[-1], [-6])

    def test_limit(self):
        right = [("limit", 0, 1, -3, -3), ("limit", 3, 0, -300, 0), ("limit", 2, 4, 5, 6)]
        self.assertEqual(last_of(STATE, right), [[3], [4], [5]])
        self.refused(STATE, ("limit", 2, 2, 0, 0), -5)
        self.refused(STATE, ("limit", 0, 1, 0, -1), -6)
        self.refused(STATE, ("limit", 5, 1, 0, 0), -4)
        self.refused(STATE, ("limit", 0, 5, 0, 0), -4)
        self.refused(STATE, ("limit", 16, 1, 0, 0), -1)
        self.refused(STATE, ("limit", 0, 1, -10 ** 15 - 1, 0), -1)
        self.refused(STATE, ("limit", 0, 1, 0, 10 ** 15 + 1), -1)
        self.refused(EVIDENCE_FULL, ("limit", 0, 1, 0, 0), -7)

    def test_limit_order(self):
        self.refused(EVIDENCE_FULL, ("limit", 2, 2, 1, 0), -5)
        self.refused(EVIDENCE_FULL, ("limit", 1, 2, 1, 0), -6)
        self.refused(EVIDENCE_FULL, ("limit", 5, 5, 1, 0), -4)
        self.refused(EVIDENCE_FULL, ("limit", 5, 5, 10 ** 15 + 1, 0), -1)

    def test_drop(self):
        self.assertEqual(last_of(STATE, [("drop", 1), ("drop", 0), ("drop", 0), ("drop", 0)]), [[2], [1], [0], [-4]])
        self.refused(STATE, ("drop", 3), -4)
        self.refused(STATE, ("drop", 24), -1)
        self.refused(STATE, ("drop", -1), -1)

    def test_asking(self):
        for name in ("most", "sure", "way"):
            for prefix in (STATE, STATE + BROKEN):
                self.refused(prefix, (name, 5, 0), -4)
                self.refused(prefix, (name, 0, 5), -4)
                self.refused(prefix, (name, 0, 16), -1)
                self.refused(prefix, (name, 16, 0), -1)
                self.refused(prefix, (name, -1, 5), -1)
                self.refused(prefix, (name, 5, -1), -1)
            self.refused(STATE + BROKEN, (name, 0, 4), -8)
            self.refused(STATE + BROKEN, (name, 2, 2), -8)

    def test_asking_changes_nothing(self):
        asks = [("fits",), ("most", 0, 1), ("sure", 0, 1), ("way", 0, 1)]
        for prefix in (STATE, STATE + BROKEN):
            self.assertEqual(last_of(prefix, asks + probe())[4:], last_of(prefix, probe()))

    def test_there_is_a_history_again_when_what_breaks_it_is_dropped(self):
        calls = apart(2) + BROKEN + [("most", 0, 1), ("drop", 0), ("fits",), ("most", 0, 1)]
        self.assertEqual(answered(calls)[-4:], [[-8], [1], [1], [1, -900]])


if __name__ == "__main__":
    unittest.main()
