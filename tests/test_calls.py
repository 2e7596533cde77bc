"""The calls that tell, and fits to way: an ordinary answer, each refusal alone, which of two is answered."""

import unittest

from tests.lines import answered, apart, last_of
from tests.probing import (
    ASKS, BOXES_FULL, BROKEN, EVENTS_FULL, EVIDENCE_FULL, MESSAGES_FULL, STATE, WOKEN, Refusing, probe,
)

STAMPED = ("event", "press", "report")


class Refusals(Refusing, unittest.TestCase):
    def test_probe_sees_changes(self):
        changes = [
            ("box", 1, 1, 0), ("wire", 0, 1, 10, 41), ("wire", 0, 2, 0, 0), ("event", 0, 200), ("press", 1, 61),
            ("sent", 0), ("heard", 1, 0), ("limit", 0, 1, 0, 0), ("drop", 2), ("report", 0, 200), ("wakes", 2),
        ]
        for change in changes:
            with self.subTest(change=change):
                self.assertNotEqual(last_of(STATE + [change], probe()), last_of(STATE, probe()))

    def test_box(self):
        self.assertEqual(last_of(STATE, [("box", 1, 2, 3)]), [[3]])
        self.assertEqual(answered(BOXES_FULL), [[k] for k in range(8)])
        for wrong in ((0, 2, 0), (3, 2, 0), (1, 100001, 0), (1, 1, -1), (1, 1, 1001)):
            self.refused(STATE, ("box",) + wrong, -1)
            self.refused(BOXES_FULL, ("box",) + wrong, -1)
        self.refused(BOXES_FULL, ("box", 1, 1, 0), -7)

    def test_wire(self):
        for right in ((2, 0, 5, 9), (2, 0, 5, 5), (2, 0, 5, -1), (2, 0, 0, 0), (0, 1, 1, 2)):
            self.assertEqual(last_of(STATE, [("wire",) + right]), [[0]])
        self.refused(STATE, ("wire", 1, 1, 0, 0), -5)
        self.refused(STATE, ("wire", 0, 1, 5, 4), -6)
        self.refused(STATE, ("wire", 0, 1, 1, 0), -6)
        self.refused(STATE, ("wire", 3, 1, 0, 0), -4)
        self.refused(STATE, ("wire", 1, 7, 0, 0), -4)
        self.refused(STATE, ("wire", 8, 1, 0, 0), -1)
        self.refused(STATE, ("wire", 0, 1, -1, -1), -1)
        self.refused(STATE, ("wire", 0, 1, 0, -2), -1)

    def test_wire_order(self):
        self.refused(STATE, ("wire", 1, 1, 5, 4), -5)
        self.refused(STATE, ("wire", 3, 3, 5, 4), -4)
        self.refused(STATE, ("wire", 3, 3, 5, -2), -1)
        self.refused(STATE, ("wire", 3, -1, 5, 4), -1)
        self.refused(STATE, ("wire", 1, 1, -1, 4), -1)

    def test_event_press_and_report(self):
        for name in STAMPED:
            self.assertEqual(last_of(STATE, [(name, 0, 200), (name, 2, 8), (name, 1, 10 ** 9)]), [[5], [6], [7]])
            self.refused(STATE, (name, 0, 199), -3)
            self.refused(STATE, (name, 1, 0), -3)
            self.refused(STATE, (name, 3, 300), -4)
            self.refused(STATE, (name, 8, 300), -1)
            self.refused(STATE, (name, 0, -1), -1)
            self.refused(EVENTS_FULL, (name, 0, 5), -7)
            self.refused(EVENTS_FULL, (name, 1, 0), -7)

    def test_event_press_and_report_order(self):
        for name in STAMPED:
            self.refused(EVENTS_FULL, (name, 0, 4), -3)
            self.refused(EVENTS_FULL, (name, 2, 4), -4)
            self.refused(STATE, (name, 3, -1), -1)
            self.refused(STATE, (name, -1, 0), -1)
            self.refused(EVENTS_FULL, (name, 0, -1), -1)
            self.refused(EVENTS_FULL, (name, 2, 10 ** 9 + 1), -1)

    def test_stamps_are_of_each_box_alone(self):
        calls = [("box", 1, 1, 0)] * 2 + [("event", 0, 9), ("press", 1, 3), ("event", 0, 9), ("press", 1, 2)]
        self.assertEqual(answered(calls)[2:], [[0], [1], [2], [-3]])

    def test_a_woken_box_is_refused_first(self):
        full = WOKEN + [("event", 0, 200)] * 10
        for name in STAMPED:
            self.refused(WOKEN, (name, 2, 7), -11)
            self.refused(WOKEN, (name, 2, 6), -11)
            self.refused(full, (name, 2, 7), -11)
            self.refused(full, (name, 3, 4), -7)
            self.refused(WOKEN, (name, 4, 7), -4)
            self.refused(WOKEN, (name, 2, -1), -1)
            # The box that goes on has a clock of its own: stamps may begin anew.
            self.assertEqual(last_of(STATE, [("wakes", 2), (name, 3, 0), (name, 3, 0)]), [[3], [5], [6]])
            self.refused(WOKEN, (name, 3, 3), -3)

    def test_kinds_of_events_are_kept(self):
        calls = [("box", 1, 1, 0), ("event", 0, 5), ("press", 0, 6), ("report", 0, 7), ("told",)]
        self.assertEqual(answered(calls)[-1], [1, 1, 1, 0, 0, 3, 0, 5, 0, 0, 6, 1, 0, 7, 2])

    def test_wakes(self):
        self.assertEqual(last_of(STATE, [("wakes", 0), ("wakes", 3), ("wakes", 1)]), [[3], [4], [5]])
        self.refused(WOKEN, ("wakes", 2), -11)
        self.refused(WOKEN, ("wakes", 4), -4)
        self.refused(WOKEN, ("wakes", 8), -1)
        self.refused(WOKEN, ("wakes", -1), -1)
        self.refused(BOXES_FULL, ("wakes", 0), -7)
        self.refused(WOKEN + [("box", 1, 1, 0)] * 4, ("wakes", 3), -7)
        self.refused(WOKEN + [("box", 1, 1, 0)] * 4, ("wakes", 2), -11)
        self.refused(BOXES_FULL, ("wakes", 8), -1)

    def test_boxes_of_one_team(self):
        # Team 2 is boxes 2 and 3: a wire told of either is the same, and there is none within.
        self.refused(WOKEN, ("wire", 2, 3, 0, 0), -5)
        self.refused(WOKEN, ("wire", 3, 2, 5, 4), -5)
        self.refused(WOKEN, ("wire", 2, 2, 0, 0), -5)
        more = [("wire", 3, 1, 2, 9), ("sent", 2), ("sent", 5)]
        self.assertEqual(last_of(WOKEN + more, [("heard", 2, 1), ("heard", 3, 1)]), [[3], [4]])
        self.refused(WOKEN + more, ("heard", 2, 5), -5)
        self.refused(WOKEN + more, ("heard", 3, 2), -5)
        self.refused(WOKEN + more, ("heard", 2, 0), -6)
        self.refused(WOKEN + more, ("heard", 3, 0), -6)

    def test_sent(self):
        self.assertEqual(last_of(STATE, [("sent", 0), ("sent", 0), ("sent", 4)]), [[2], [3], [4]])
        self.refused(STATE, ("sent", 5), -4)
        self.refused(STATE, ("sent", 16), -1)
        self.refused(STATE, ("sent", -1), -1)
        self.refused(MESSAGES_FULL, ("sent", 0), -7)
        self.refused(MESSAGES_FULL, ("sent", 5), -4)
        self.refused(MESSAGES_FULL, ("sent", 16), -1)

    def test_heard(self):
        self.assertEqual(last_of(STATE, [("heard", 0, 4), ("heard", 0, 4), ("heard", 1, 0)]), [[3], [4], [5]])
        self.refused(STATE, ("heard", 0, 0), -5)
        self.refused(STATE, ("heard", 0, 3), -5)
        self.refused(STATE, ("heard", 0, 2), -6)
        self.refused(STATE, ("heard", 2, 1), -4)
        self.refused(STATE, ("heard", 0, 5), -4)
        self.refused(STATE, ("heard", 12, 1), -1)
        self.refused(STATE, ("heard", 0, 16), -1)
        self.refused(EVIDENCE_FULL, ("heard", 0, 1), -7)

    def test_heard_order(self):
        # No wire leads from a team to itself: -5 is told ahead of -6.
        self.refused(EVIDENCE_FULL, ("heard", 0, 3), -5)
        self.refused(EVIDENCE_FULL, ("heard", 0, 2), -6)
        self.refused(EVIDENCE_FULL, ("heard", 2, 0), -4)
        self.refused(EVIDENCE_FULL, ("heard", 2, -1), -1)
        self.refused(EVIDENCE_FULL, ("heard", -1, 5), -1)

    def test_a_wire_back_is_none_there(self):
        calls = apart(2) + [("wire", 0, 1, 0, 5), ("sent", 1), ("heard", 0, 0)]
        self.assertEqual(answered(calls)[-1], [-6])

    def test_limit(self):
        right = [("limit", 0, 1, -3, -3), ("limit", 3, 0, -300, 0), ("limit", 2, 4, 5, 6)]
        self.assertEqual(last_of(STATE, right), [[3], [4], [5]])
        self.refused(STATE, ("limit", 2, 2, 0, 0), -5)
        self.refused(STATE, ("limit", 0, 1, 0, -1), -6)
        self.refused(STATE, ("limit", 5, 1, 0, 0), -4)
        self.refused(STATE, ("limit", 0, 5, 0, 0), -4)
        self.refused(STATE, ("limit", 16, 1, 0, 0), -1)
        self.refused(STATE, ("limit", 0, 1, -10 ** 15 - 1, 0), -1)
        self.refused(STATE, ("limit", 0, 1, 0, 10 ** 15 + 1), -1)
        self.refused(EVIDENCE_FULL, ("limit", 0, 1, 0, 0), -7)

    def test_limit_order(self):
        self.refused(EVIDENCE_FULL, ("limit", 2, 2, 1, 0), -5)
        self.refused(EVIDENCE_FULL, ("limit", 1, 2, 1, 0), -6)
        self.refused(EVIDENCE_FULL, ("limit", 5, 5, 1, 0), -4)
        self.refused(EVIDENCE_FULL, ("limit", 5, 5, 10 ** 15 + 1, 0), -1)

    def test_drop(self):
        self.assertEqual(last_of(STATE, [("drop", 1), ("drop", 0), ("drop", 0), ("drop", 0)]), [[2], [1], [0], [-4]])
        self.refused(STATE, ("drop", 3), -4)
        self.refused(STATE, ("drop", 24), -1)
        self.refused(STATE, ("drop", -1), -1)

    def test_asking(self):
        for name in ("most", "sure", "way"):
            for prefix in (STATE, STATE + BROKEN):
                self.refused(prefix, (name, 5, 0), -4)
                self.refused(prefix, (name, 0, 5), -4)
                self.refused(prefix, (name, 0, 16), -1)
                self.refused(prefix, (name, 16, 0), -1)
                self.refused(prefix, (name, -1, 5), -1)
                self.refused(prefix, (name, 5, -1), -1)
            self.refused(STATE + BROKEN, (name, 0, 4), -8)
            self.refused(STATE + BROKEN, (name, 2, 2), -8)

    def test_asking_changes_nothing(self):
        for prefix in (STATE, STATE + BROKEN, WOKEN, []):
            for ask in ASKS:
                with self.subTest(ask=ask):
                    self.assertEqual(last_of(prefix, [ask] + probe())[1:], last_of(prefix, probe()))
            found = last_of(prefix, ASKS + ASKS)
            self.assertEqual(found[len(ASKS):], found[:len(ASKS)])

    def test_there_is_a_history_again_when_what_breaks_it_is_dropped(self):
        calls = apart(2) + BROKEN + [("most", 0, 1), ("drop", 0), ("fits",), ("most", 0, 1)]
        self.assertEqual(answered(calls)[-4:], [[-8], [1], [1], [1, -900]])


if __name__ == "__main__":
    unittest.main()
