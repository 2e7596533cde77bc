"""The answers by another road: all rows of bounds up to some length are walked, and what is sure is asked of rings."""

from copy import deepcopy

ROWS = ("first", "check", "adds")


def fits_together(bounds):
    """Whether no ring is below 0. One that meets an event twice falls into shorter ones: each is met once."""
    leads = {}
    for start, end, w in bounds:
        leads.setdefault(start, []).append((end, w))

    def ring_below_0(origin, here, total, met):
        for there, w in leads.get(here, ()):
            if there == origin and total + w < 0:
                return True
            if there not in met and there > origin and ring_below_0(origin, there, total + w, met | {there}):
                return True
        return False

    return not any(ring_below_0(origin, origin, 0, {origin}) for origin in leads)


def surely_before(bounds, x, y):
    """No history has y at one moment with x or ahead of it."""
    return not fits_together(bounds + [(x, y, 0)])


def surely_not_behind(bounds, x, y):
    """No history has y ahead of x; where there is one, there is one of whole numbers."""
    return not fits_together(bounds + [(x, y, -1)])


def walks(bounds, start, longest):
    """Each way from start of at most so many bounds, as (where to, sum, numbers), the shorter ahead."""
    now = [(start, 0, ())]
    for length in range(longest + 1):
        yield from now
        if length < longest:
            now = [
                (there, total + w, numbers + (number,))
                for here, total, numbers in now
                for number, (origin, there, w) in enumerate(bounds) if origin == here
            ]


class Reference:
    def __init__(self):
        self.boxes = []
        self.woken = []
        self.wires = {}
        self.events = []
        self.messages = []
        self.evidence = []

    def answer(self, call):
        name, given = call[0], list(call[1:])
        if name in ROWS:
            assert given[0] == len(given) - 1
            return getattr(self, "do_" + name)(given[1:])
        refusal = self.range_refusal(name, given)
        if not refusal and name in ("most", "sure", "way", "history", "late", "needed", "ruled"):
            refusal = 0 if fits_together(self.bounds()) else -8
        return [refusal] if refusal else getattr(self, "do_" + name)(*given)

    def range_refusal(self, name, given):
        box, event = (0, 7, self.boxes), (0, 15, self.events)
        message, evidence = (0, 11, self.messages), (0, 23, self.evidence)
        stamp, span = (0, 10 ** 9, None), (-10 ** 15, 10 ** 15, None)
        delay, or_none = (0, 10 ** 12, None), (-1, 10 ** 12, None)
        wanted = {
            "box": [(1, 10 ** 5, None), (given[0] if given else 0, 10 ** 5, None), (0, 1000, None)],
            "wire": [box, box, delay, or_none], "event": [box, stamp], "press": [box, stamp], "report": [box, stamp],
            "sent": [event], "heard": [message, event], "limit": [event, event, span, span], "drop": [evidence],
            "most": [event, event], "sure": [event, event], "way": [event, event], "needed": [event, event],
            "late": [event], "would": [message, box, stamp], "wakes": [box],
        }.get(name, [])
        if any(not low <= number <= high for number, (low, high, _) in zip(given, wanted, strict=True)):
            return -1
        if any(things is not None and number >= len(things) for number, (_, _, things) in zip(given, wanted)):
            return -4
        return 0

    def team(self, x):
        return self.boxes[self.events[x][0]][3]

    def do_box(self, a, b, e):
        if len(self.boxes) == 8:
            return [-7]
        self.boxes.append((a, b, e, len(self.boxes)))
        return [len(self.boxes) - 1]

    def do_wakes(self, i):
        if i in self.woken:
            return [-11]
        if len(self.boxes) == 8:
            return [-7]
        self.woken.append(i)
        self.boxes.append(self.boxes[i])
        return [len(self.boxes) - 1]

    def do_wire(self, i, j, lo, hi):
        teams = self.boxes[i][3], self.boxes[j][3]
        if teams[0] == teams[1]:
            return [-5]
        if hi < lo and hi != -1:
            return [-6]
        self.wires[teams] = lo, hi
        return [0]

    def do_event(self, i, s, kind=0):
        if i in self.woken:
            return [-11]
        if any(box == i and s < stamp for box, stamp, _ in self.events):
            return [-3]
        if len(self.events) == 16:
            return [-7]
        self.events.append((i, s, kind))
        return [len(self.events) - 1]

    def do_press(self, i, s):
        return self.do_event(i, s, 1)

    def do_report(self, i, s):
        return self.do_event(i, s, 2)

    def do_sent(self, x):
        if len(self.messages) == 12:
            return [-7]
        self.messages.append(x)
        return [len(self.messages) - 1]

    def do_heard(self, m, y):
        teams = self.team(self.messages[m]), self.team(y)
        if teams[0] == teams[1]:
            return [-5]
        if teams not in self.wires:
            return [-6]
        return self.add_evidence(("heard", m, y))

    def do_limit(self, x, y, lo, hi):
        if x == y:
            return [-5]
        if hi < lo:
            return [-6]
        return self.add_evidence(("limit", x, y, lo, hi))

    def add_evidence(self, evidence):
        if len(self.evidence) == 24:
            return [-7]
        self.evidence.append(evidence)
        return [len(self.evidence) - 1]

    def do_drop(self, k):
        self.evidence = self.evidence[:k] + self.evidence[k + 1:]
        return [len(self.evidence)]

    def bounds(self):
        rows = []
        for y_above, (box, early, _) in enumerate(self.events, 1):
            x = y_above - 1
            for y in range(y_above, len(self.events)):
                if self.events[y][0] == box:
                    a, b, e, _ = self.boxes[box]
                    d = self.events[y][1] - early
                    rows.append((x, y, (d + e) * b))
                    rows.append((y, x, 0 if d < e else -(d - e) * a))
                elif self.team(x) == self.team(y):
                    rows.append((y, x, 0))
        for evidence in self.evidence:
            if evidence[0] == "limit":
                _, x, y, lo, hi = evidence
            else:
                x, y = self.messages[evidence[1]], evidence[2]
                lo, hi = self.wires[self.team(x), self.team(y)]
                if hi == -1:
                    rows.append((y, x, -lo))
                    continue
            rows.append((x, y, hi))
            rows.append((y, x, -lo))
        return rows

    def ring(self):
        """The numbers of the told ring, or None if there is a history."""
        size, bounds = len(self.events), self.bounds()
        rings = [
            (len(numbers), x, total, numbers)
            for x in range(size)
            for there, total, numbers in walks(bounds, x, size) if there == x and total < 0
        ]
        return min(rings)[3] if rings else None

    def least(self, x):
        """The sum and the numbers of the told way to each event that there is a way to."""
        ways = {}
        for there, total, numbers in walks(self.bounds(), x, len(self.events) - 1):
            found = total, len(numbers), numbers
            ways[there] = min(ways.get(there, found), found)
        return {there: (total, numbers) for there, (total, _, numbers) in ways.items()}

    def do_fits(self):
        ring = self.ring()
        return [1] if ring is None else [0, len(ring), *ring]

    def do_most(self, x, y):
        found = self.least(x).get(y)
        return [0] if found is None else [1, found[0]]

    def do_sure(self, x, y):
        bounds = self.bounds()
        if surely_before(bounds, x, y):
            return [2]
        return [1 if surely_not_behind(bounds, x, y) else 0]

    def do_way(self, x, y):
        found = self.least(x).get(y)
        return [0] if found is None else [1, len(found[1]), *found[1]]

    def presses(self):
        return [x for x, (_, _, kind) in enumerate(self.events) if kind == 1]

    def do_first(self, row):
        if any(not 0 <= x < len(self.events) for x in row) or row != sorted(set(row)):
            return [-2]
        if not fits_together(self.bounds()):
            return [-8]
        looked_at = row or self.presses()
        if not looked_at:
            return [-9]
        for x in looked_at:
            if all(surely_before(self.bounds(), x, y) for y in looked_at if y != x):
                return [1, x]
        # x's time less that of each other one is at most 0.
        able = [x for x in looked_at if fits_together(self.bounds() + [(y, x, 0) for y in looked_at if y != x])]
        return [0, len(able), *able]

    def do_bounds(self):
        rows = self.bounds()
        return [len(rows)] + [number for row in rows for number in row]

    def do_history(self):
        size = len(self.events)
        ways = [self.least(x) for x in range(size)]
        sums = [min(found[y][0] for found in ways if y in found) for y in range(size)]
        return [size] + [total - min(sums) for total in sums]

    def do_late(self, x):
        size, found = len(self.events), self.least(x)
        if len(found) < size:
            return [0]
        return [1, size] + [found[y][0] for y in range(size)]

    def do_check(self, row):
        if len(row) != len(self.events) or any(abs(moment) > 10 ** 15 for moment in row):
            return [-2]
        wrong = [number for number, (x, y, w) in enumerate(self.bounds()) if row[y] - row[x] > w]
        return [0, wrong[0]] if wrong else [1]

    def do_needed(self, x, y):
        if not surely_before(self.bounds(), x, y):
            return [-9]
        found = []
        for k in range(len(self.evidence)):
            other = deepcopy(self)
            other.do_drop(k)
            if not surely_before(other.bounds(), x, y):
                found.append(k)
        return [len(found)] + found

    def do_would(self, m, i, s):
        if i in self.woken:
            return [-11]
        if any(box == i and s < stamp for box, stamp, _ in self.events):
            return [-3]
        if len(self.events) == 16 or len(self.evidence) == 24:
            return [-7]
        other = deepcopy(self)
        heard = other.do_heard(m, other.do_event(i, s)[0])
        if heard[0] < 0:
            return heard
        if not self.presses():
            return [-9]
        found = other.do_first([])
        return [-10] if found == [-8] else found

    def do_adds(self, row):
        bounds = self.bounds()
        if any(not 0 <= number < len(bounds) for number in row):
            return [-2]
        if not row:
            return [0]
        here, total = bounds[row[0]][0], 0
        for number in row:
            if bounds[number][0] != here:
                return [0]
            here, total = bounds[number][1], total + bounds[number][2]
        return [1, bounds[row[0]][0], here, total]

    def do_ruled(self):
        if not self.presses():
            return [-9]
        found = self.do_first([])
        if found[0] == 0:
            return [0, 0]
        x = found[1]
        left = []
        for team in sorted({box[3] for box in self.boxes} - {self.team(x)}):
            reports = [y for y, (_, _, kind) in enumerate(self.events) if kind == 2 and self.team(y) == team]
            if not reports or not surely_not_behind(self.bounds(), x, reports[-1]):
                left.append(team)
        return [0, len(left), *left] if left else [1, x]

    def do_told(self):
        found = [len(self.boxes)] + [number for box in self.boxes for number in box]
        return found + [len(self.events)] + [number for event in self.events for number in event]
