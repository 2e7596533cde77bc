"""Drawn calls and lines: few small numbers, so that sums are often alike and rings often below 0."""

from tests.lines import NAMES
from tests.reference import ROWS, Reference


def wild(draw, low, high):
    """Mostly a number from low to high, now and then one beyond."""
    pick = draw.random()
    if pick < 0.93:
        return draw.randint(low, high)
    if pick < 0.98:
        return draw.choice((low - 1, high + 1))
    return draw.choice((-10 ** 18, 10 ** 18))


def drawn_telling(draw, reference):
    size = max(len(reference.events), 1)
    event, box = wild(draw, 0, size - 1), wild(draw, 0, len(reference.boxes) - 1)
    low = draw.randint(-5, 5)
    calls = [
        ("heard", wild(draw, 0, 1), event), ("limit", wild(draw, 0, size - 1), event, low, low + draw.randint(0, 5)),
        ("limit", event, wild(draw, 0, size - 1), low, low + draw.randint(-1, 9)),
    ]
    if draw.random() < 0.5:
        calls = [
            ("box", wild(draw, 1, 2), 2, wild(draw, 0, 2)), ("wakes", box), ("sent", event),
            ("drop", wild(draw, 0, len(reference.evidence))),
            (draw.choice(("event", "press", "report")), box, wild(draw, 2, 5)),
            ("wire", box, wild(draw, 0, 2), wild(draw, 0, 3), wild(draw, -1, 6)), ("heard", wild(draw, 0, 2), event),
        ]
    return draw.choice(calls)


def drawn_way(draw, bounds):
    """A row of bounds that is a way, or nearly so."""
    row = []
    here = draw.choice(bounds)[0] if bounds else 0
    for _ in range(draw.randint(0, 4)):
        onward = [number for number, bound in enumerate(bounds) if bound[0] == here or draw.random() < 0.05]
        if onward:
            row.append(draw.choice(onward))
            here = bounds[row[-1]][1]
    return row + draw.choice(([], [], [], [wild(draw, 0, len(bounds))]))


def drawn_row(draw, name, reference):
    size = len(reference.events)
    if name == "adds":
        return drawn_way(draw, reference.bounds())
    if name == "check":
        told = reference.answer(("history",))
        if told[0] == -8 or draw.random() < 0.6:
            told = [size] + [draw.randint(-4, 9) for _ in range(size + draw.choice((0, 0, 0, 1)))]
        return [moment + wild(draw, 0, 0) for moment in told[1:]]
    row = sorted(draw.sample(range(size), draw.randint(0, size)))
    return draw.choice((row, row, row, row + [wild(draw, 0, size)], row[::-1]))


def drawn_asking(draw, reference):
    size = max(len(reference.events), 1)
    name = draw.choice(NAMES[8:20] + NAMES[22:])
    if name in ROWS:
        row = drawn_row(draw, name, reference)
        return (name, len(row), *row)
    if name == "would":
        return (name, wild(draw, 0, 2), wild(draw, 0, len(reference.boxes) - 1), wild(draw, 0, 5))
    if name == "needed" and draw.random() < 0.8:
        pairs = [(x, y) for x in range(size) for y in range(size) if reference.answer(("sure", x, y)) == [2]]
        return (name, *draw.choice(pairs or [(0, 0)]))
    if name in ("most", "sure", "way", "needed"):
        return (name, wild(draw, 0, size - 1), wild(draw, 0, size - 1))
    return (name, wild(draw, 0, size - 1)) if name == "late" else (name,)


def drawn_start(draw, size):
    calls = []
    live = list(range(draw.choice((1, 2, 2, 3, 3))))
    for _ in live:
        slow = draw.randint(1, 2)
        calls.append(("box", slow, slow + draw.randint(0, 2), draw.randint(0, 2)))
    for k, stamp in enumerate(sorted(draw.randint(0, 4) for _ in range(size))):
        if draw.random() < 0.1:
            i = draw.randrange(len(live))
            calls.append(("wakes", live[i]))
            live[i] = sum(call[0] in ("box", "wakes") for call in calls) - 1
        kinds = ("event", "press", "press") if 2 * k < size else ("event", "press", "report", "report")
        calls.append((draw.choice(kinds), draw.choice(live), stamp))
    calls += [("wire", i, j, draw.randint(0, 2), draw.choice((-1, 3, 4))) for i in range(3) for j in range(3)]
    return calls + [("sent", draw.randint(0, size - 1)) for _ in range(2)]


def drawn_line(draw):
    """A line of all calls, and its answers by the reference."""
    reference, calls, wanted = Reference(), [], []

    def put(call):
        calls.append(call)
        wanted.append(reference.answer(call))

    for call in drawn_start(draw, draw.randint(2, 4)):
        put(call)
    for _ in range(draw.randint(0, 14)):
        call = drawn_telling(draw, reference)
        # Walking all ways of more than 5 events takes long.
        if len(reference.events) < 5 or call[0] not in ("event", "press", "report"):
            put(call)
        if draw.random() < 0.5:
            put(drawn_asking(draw, reference))
    for _ in range(20):
        put(drawn_asking(draw, reference))
    return calls, wanted
