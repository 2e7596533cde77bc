"""Lines that are true of some times, with as many events as there may be."""


class Truth:
    """A drawn line, the time of each of its events, and those of presses that were not told."""

    def __init__(self, draw, events=16, boxes=4):
        self.draw = draw
        self.calls, self.times, self.teams, self.hidden = [], [], [], []
        self.rates = []
        for _ in range(boxes):
            slow = draw.randint(1, 5)
            self.rates.append((slow, slow + draw.randint(0, 3)))
            self.calls.append(("box", *self.rates[-1], draw.randint(0, 3)))
        # By team: the box that it is now, its true time, and its clock.
        self.live = list(range(boxes))
        self.now = [draw.randint(0, 300) for _ in range(boxes)]
        self.clocks = [draw.randint(0, 50) for _ in range(boxes)]
        for k in range(events):
            self.tell_event(k, events)
        for moment in self.now:
            self.hidden += [moment + draw.randint(1, 200) for _ in range(3)]

    def tell_event(self, k, events):
        draw, team = self.draw, self.draw.randrange(len(self.live))
        if draw.random() < 0.08 and self.box_count() < 8:
            self.calls.append(("wakes", self.live[team]))
            self.live[team] = self.box_count() - 1
            self.clocks[team] = draw.randint(0, 50)
            self.now[team] += draw.randint(0, 30)
        gone = draw.randint(0, 20)
        slow, fast = self.rates[team]
        self.clocks[team] += gone
        self.now[team] += draw.randint(gone * slow, gone * fast)
        kinds = ("event", "press", "press") if 2 * k < events else ("event", "report", "report")
        self.calls.append((draw.choice(kinds), self.live[team], self.clocks[team]))
        self.times.append(self.now[team])
        self.teams.append(team)

    def box_count(self):
        return sum(call[0] in ("box", "wakes") for call in self.calls)

    def evidence(self, count):
        """So many calls at most, that wires, hearings and limits are made of."""
        draw, calls, size = self.draw, [], len(self.times)
        calls += [("wire", i, j, 0, draw.choice((-1, 600)))
                  for i in range(len(self.live)) for j in range(len(self.live)) if i != j]
        origins = [draw.randrange(size) for _ in range(6)]
        calls += [("sent", x) for x in origins]
        for _ in range(count):
            m, y = draw.randrange(6), draw.randrange(size)
            if self.teams[y] != self.teams[origins[m]] and 0 <= self.times[y] - self.times[origins[m]] <= 600:
                calls.append(("heard", m, y))
            elif draw.random() < 0.7:
                x, y = draw.sample(range(size), 2)
                calls.append(self.limit(x, y, 40))
        return calls

    def limit(self, x, y, slack):
        gone = self.times[y] - self.times[x]
        return ("limit", x, y, gone - self.draw.randint(0, slack), gone + self.draw.randint(0, slack))

    def line(self, count=16):
        return self.calls + self.evidence(count)
