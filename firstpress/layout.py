"""How calls stand in the list that is handed in, and the range of each of their numbers."""

# By a call's number: the kinds of its whole numbers, in order.
KINDS = (
    ("slow", "fast", "grain"),  # box
    ("box", "box", "least", "greatest"),  # wire
    ("box", "stamp"),  # event
    ("box", "stamp"),  # press
    ("event",),  # sent
    ("message", "event"),  # heard
    ("event", "event", "span", "span"),  # limit
    ("evidence",),  # drop
    (),  # fits
    ("event", "event"),  # most
    ("event", "event"),  # sure
    ("event", "event"),  # way
    (),  # first
    (),  # bounds
    (),  # history
    ("event",),  # late
    (),  # check
    ("event", "event"),  # needed
    ("message", "box", "stamp"),  # would
    (),  # adds
    ("box", "stamp"),  # report
    ("box",),  # wakes
    (),  # ruled
    (),  # told
)

# first, check and adds: a row stands behind their whole numbers.
WITH_ROW = (12, 16, 19)

RANGES = {
    "slow": (1, 100000),
    "fast": (1, 100000),
    "grain": (0, 1000),
    "least": (0, 1000000000000),
    "greatest": (-1, 1000000000000),
    "stamp": (0, 1000000000),
    "span": (-1000000000000000, 1000000000000000),
    "time": (-1000000000000000, 1000000000000000),
    "box": (0, 7),
    "event": (0, 15),
    "message": (0, 11),
    "evidence": (0, 23),
}


# One call of a line; end is the place where the next one begins.
class Call:
    def __init__(self, number, given, row, end):
        self.number = number
        self.given = given
        self.row = row
        self.end = end


def read_call(calls, place):
    number = calls[place]
    behind = place + 1 + len(KINDS[number])
    given = calls[place + 1:behind]
    if number not in WITH_ROW:
        return Call(number, given, [], behind)
    end = behind + 1 + calls[behind]
    return Call(number, given, calls[behind + 1:end], end)


def in_ranges(kinds, given):
    for kind, number in zip(kinds, given):
        if number < RANGES[kind][0] or number > RANGES[kind][1]:
            return False
    return True
