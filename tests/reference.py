"""The answers by another road: all rows of bounds up to some length are walked, none is remembered."""


class Reference:
    def __init__(self):
        self.boxes = []
        self.wires = {}
        self.events = []
        self.messages = []
        self.evidence = []

    def answer(self, call):
        name, given = call[0], list(call[1:])
        refusal = self.range_refusal(name, given)
        return [refusal] if refusal else getattr(self, "do_" + name)(*given)

    def range_refusal(self, name, given):
        box, event = (0, 7, self.boxes), (0, 15, self.events)
        message, evidence = (0, 11, self.messages), (0, 23, self.evidence)
        stamp, span = (0, 10 ** 9, None), (-10 ** 15, 10 ** 15, None)
        delay, or_none = (0, 10 ** 12, None), (-1, 10 ** 12, None)
        wanted = {
            "box": [(1, 10 ** 5, None), (given[0] if given else 0, 10 ** 5, None), (0, 1000, None)],
            "wire": [box, box, delay, or_none], "event": [box, stamp], "press": [box, stamp], "sent": [event],
            "heard": [message, event], "limit": [event, event, span, span], "drop": [evidence], "fits": [],
            "most": [event, event], "sure": [event, event], "way": [event, event],
        }[name]
        if any(not low <= number <= high for number, (low, high, _) in zip(given, wanted, strict=True)):
            return -1
        if any(things is not None and number >= len(things) for number, (_, _, things) in zip(given, wanted)):
            return -4
        return 0

    def do_box(self, a, b, e):
        if len(self.boxes) == 8:
            return [-7]
        self.boxes.append((a, b, e))
        return [len(self.boxes) - 1]

    def do_wire(self, i, j, lo, hi):
        if i == j:
            return [-5]
        if hi < lo and hi != -1:
            return [-6]
        self.wires[i, j] = lo, hi
        return [0]

    def do_event(self, i, s):
        if any(box == i and s < stamp for box, stamp in self.events):
            return [-3]
        if len(self.events) == 16:
            return [-7]
        self.events.append((i, s))
        return [len(self.events) - 1]

    do_press = do_event

    def do_sent(self, x):
        if len(self.messages) == 12:
            return [-7]
        self.messages.append(x)
        return [len(self.messages) - 1]

    def do_heard(self, m, y):
        teams = self.events[self.messages[m]][0], self.events[y][0]
        if teams[0] == teams[1]:
            return [-5]
        if teams not in self.wires:
            return [-6]
        return self.add_evidence(("heard", m, y))

    def do_limit(self, x, y, lo, hi):
        if x == y:
            return [-5]
        if hi < lo:
            return [-6]
        return self.add_evidence(("limit", x, y, lo, hi))

    def add_evidence(self, evidence):
        if len(self.evidence) == 24:
            return [-7]
        self.evidence.append(evidence)
        return [len(self.evidence) - 1]

    def do_drop(self, k):
        self.evidence = self.evidence[:k] + self.evidence[k + 1:]
        return [len(self.evidence)]

    def bounds(self):
        rows = []
        for y_above, (box, early) in enumerate(self.events, 1):
            for y in range(y_above, len(self.events)):
                if self.events[y][0] == box:
                    a, b, e = self.boxes[box]
                    d = self.events[y][1] - early
                    rows.append((y_above - 1, y, (d + e) * b))
                    rows.append((y, y_above - 1, 0 if d < e else -(d - e) * a))
        for evidence in self.evidence:
            if evidence[0] == "limit":
                _, x, y, lo, hi = evidence
            else:
                x, y = self.messages[evidence[1]], evidence[2]
                lo, hi = self.wires[self.events[x][0], self.events[y][0]]
                if hi == -1:
                    rows.append((y, x, -lo))
                    continue
            rows.append((x, y, hi))
            rows.append((y, x, -lo))
        return rows

    def walks(self, start, longest):
        """Each way from start of at most so many bounds, as (where to, sum, numbers), the shorter ahead."""
        bounds = self.bounds()
        now = [(start, 0, ())]
        for length in range(longest + 1):
            yield from now
            if length < longest:
                now = [
                    (there, total + w, numbers + (number,))
                    for here, total, numbers in now
                    for number, (origin, there, w) in enumerate(bounds) if origin == here
                ]

    def ring(self):
        """The numbers of the told ring, or None if there is a history."""
        size = len(self.events)
        rings = [
            (len(numbers), x, total, numbers)
            for x in range(size)
            for there, total, numbers in self.walks(x, size) if there == x and total < 0
        ]
        return min(rings)[3] if rings else None

    def least(self, x, y):
        """The told way's sum and numbers, or None."""
        ways = [
            (total, len(numbers), numbers)
            for there, total, numbers in self.walks(x, len(self.events) - 1) if there == y
        ]
        return (min(ways)[0], min(ways)[2]) if ways else None

    def do_fits(self):
        ring = self.ring()
        return [1] if ring is None else [0, len(ring), *ring]

    def do_most(self, x, y):
        if self.ring() is not None:
            return [-8]
        found = self.least(x, y)
        return [0] if found is None else [1, found[0]]

    def do_sure(self, x, y):
        if self.ring() is not None:
            return [-8]
        found = self.least(y, x)
        if found is None or found[0] > 0:
            return [0]
        return [2 if found[0] < 0 else 1]

    def do_way(self, x, y):
        if self.ring() is not None:
            return [-8]
        found = self.least(x, y)
        return [0] if found is None else [1, len(found[1]), *found[1]]
