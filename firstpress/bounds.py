"""All bounds that follow from what was told, in the order of their numbers."""

from firstpress.record import Hearing


# The time of event end less that of event start is at most weight.
class Bound:
    def __init__(self, start, end, weight):
        self.start = start
        self.end = end
        self.weight = weight


def all_bounds(record):
    found = clock_bounds(record)
    for evidence in record.evidence:
        found.extend(evidence_bounds(record, evidence))
    return found


def clock_bounds(record):
    found = []
    for x in range(len(record.events)):
        for y in range(x + 1, len(record.events)):
            if record.team_of(x) == record.team_of(y):
                found.extend(pair_bounds(record, x, y))
    return found


def pair_bounds(record, x, y):
    earlier = record.events[x]
    later = record.events[y]
    if earlier.box != later.box:
        # The box woke anew between them, and its clocks have nothing in common: only the order is known.
        return [Bound(y, x, 0)]
    box = record.boxes[later.box]
    gone = later.stamp - earlier.stamp
    most = (gone + box.grain) * box.fast
    # Within the grain the clock says nothing of a least time, but the order is known.
    least = max(gone - box.grain, 0) * box.slow
    return [Bound(x, y, most), Bound(y, x, -least)]


def evidence_bounds(record, evidence):
    if isinstance(evidence, Hearing):
        return hearing_bounds(record, evidence)
    x = evidence.start
    y = evidence.end
    return [Bound(x, y, evidence.most), Bound(y, x, -evidence.least)]


def hearing_bounds(record, hearing):
    x = record.messages[hearing.message]
    y = hearing.event
    # The wire is not kept with the hearing: one told later also holds for what was heard before.
    wire = record.wire_between(x, y)
    back = Bound(y, x, -wire.least)
    if wire.greatest is None:
        return [back]
    return [Bound(x, y, wire.greatest), back]
