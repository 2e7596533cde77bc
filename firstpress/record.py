"""What has been told on one line: boxes, wires, events, messages, evidence."""

from firstpress.layout import RANGES

# Told with each event by told.
PLAIN = 0
PRESS = 1
REPORT = 2


class Box:
    def __init__(self, slow, fast, grain, team):
        self.slow = slow
        self.fast = fast
        self.grain = grain
        self.team = team
        # True once the box goes on as another one: it gets no more events.
        self.woken = False


class Event:
    def __init__(self, box, stamp, kind):
        self.box = box
        self.stamp = stamp
        self.kind = kind


# The delays of one direction; greatest is None if there is none.
class Wire:
    def __init__(self, least, greatest):
        self.least = least
        self.greatest = greatest


class Hearing:
    def __init__(self, message, event):
        self.message = message
        self.event = event


class Limit:
    def __init__(self, start, end, least, most):
        self.start = start
        self.end = end
        self.least = least
        self.most = most


# A message is kept as the event it was sent at; wires go by the pair of their teams.
class Record:
    def __init__(self):
        self.boxes = []
        self.events = []
        self.messages = []
        self.evidence = []
        self.wires = {}

    # The list that numbers of this kind point into; None if they are plain numbers.
    def things_of(self, kind):
        if kind == "box":
            return self.boxes
        if kind == "event":
            return self.events
        if kind == "message":
            return self.messages
        if kind == "evidence":
            return self.evidence
        return None

    def is_full(self, kind):
        return len(self.things_of(kind)) > RANGES[kind][1]

    def has_all(self, kinds, given):
        for kind, number in zip(kinds, given):
            things = self.things_of(kind)
            if things is not None and number >= len(things):
                return False
        return True

    def team_of(self, x):
        return self.boxes[self.events[x].box].team

    # The wire from the team of event x to that of event y; it must have been told.
    def wire_between(self, x, y):
        return self.wires[(self.team_of(x), self.team_of(y))]

    # 0, the least stamp that there can be, if the box has no event yet.
    def last_stamp(self, i):
        last = 0
        for event in self.events:
            if event.box == i:
                last = event.stamp
        return last

    def presses(self):
        return [x for x, event in enumerate(self.events) if event.kind == PRESS]

    # A team bears the number of its first box, so these rise.
    def teams(self):
        return [i for i, box in enumerate(self.boxes) if box.team == i]

    # The event that is the team's last report, or None.
    def last_report(self, team):
        last = None
        for x, event in enumerate(self.events):
            if event.kind == REPORT and self.team_of(x) == team:
                last = x
        return last

    # Another record, that differs in events and evidence alone: what if these were told?
    def but_with(self, events, evidence):
        other = Record()
        other.boxes = self.boxes
        other.messages = self.messages
        other.wires = self.wires
        other.events = events
        other.evidence = evidence
        return other
