"""States to begin from, and whether a refused call left everything as it was."""

from tests.lines import adds, check, first, last_of

# Boxes 0, 1 and 2; events 0 and 3 of box 0, 1 and 4 of box 1, 2 of box 2; wires from 0 to 1 and back.
# Evidence: message 0 heard at 1, a limit, message 1 heard at 3.
STATE = [
    ("box", 2, 3, 1), ("box", 1, 4, 2), ("box", 5, 5, 0),
    ("wire", 0, 1, 10, 40), ("wire", 1, 0, 3, -1),
    ("event", 0, 100), ("press", 1, 50), ("event", 2, 7), ("press", 0, 200), ("event", 1, 60),
    ("sent", 0), ("sent", 1), ("heard", 0, 1), ("limit", 2, 3, -5, 70), ("heard", 1, 3),
]
# Box 2 goes on as box 3, of team 2, and has events 2 and 5; event 5 is a report.
WOKEN = STATE + [("wakes", 2), ("report", 3, 4)]
BOXES_FULL = [("box", 1, 1, 0)] * 8
EVENTS_FULL = [("box", 1, 1, 0)] * 2 + [("event", 0, 5)] * 16
MESSAGES_FULL = STATE + [("sent", 2)] * 10
EVIDENCE_FULL = STATE + [("limit", 0, 1, 0, 500)] * 21
# Two limits that can't both hold.
BROKEN = [("limit", 0, 1, 900, 901), ("limit", 0, 1, -901, -900)]

# One of each call that asks; none may change anything.
ASKS = [
    ("fits",), ("most", 0, 1), ("sure", 0, 1), ("way", 0, 1), first(), first(0, 1), ("bounds",), ("history",),
    ("late", 0), check(0, 0, 0, 0, 0), check(0, 0, 0, 0, 0, 0), ("needed", 0, 1), ("needed", 2, 4), ("would", 0, 1, 60),
    ("would", 1, 0, 200), ("would", 0, 1, 59), adds(0), adds(1, 0), ("ruled",), ("told",),
]


def probe():
    """Calls whose answers differ if anything told so far differs."""
    calls = [("told",), ("bounds",), ("fits",), ("ruled",), ("would", 0, 1, 70)]
    calls += [("sent", 0), ("heard", 0, 4), ("heard", 1, 0), ("heard", 0, 2), ("limit", 0, 2, -9, 9), ("bounds",)]
    calls += [("drop", 0), ("fits",), ("event", 0, 200), ("event", 1, 60), ("event", 0, 199), ("box", 1, 1, 0)]
    calls += [("wakes", i) for i in (0, 1, 2, 3)] + [("bounds",), ("told",)]
    return calls


class Refusing:
    """For a TestCase: a call behind other calls is refused, and nothing changes by it."""

    def refused(self, prefix, call, refusal):
        with self.subTest(call=call, refusal=refusal):
            found = last_of(prefix, [call] + probe())
            self.assertEqual(found[0], [refusal])
            self.assertEqual(found[1:], last_of(prefix, probe()), "something changed by a refusal")
