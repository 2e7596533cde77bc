"""Lines of calls written by name, and their answers split by call."""

from firstpress.presses import answers

NAMES = (
    "box", "wire", "event", "press", "sent", "heard", "limit", "drop", "fits", "most", "sure", "way",
    "first", "bounds", "history", "late", "check", "needed", "would", "adds", "report", "wakes", "ruled", "told",
)
# There are at most 40 of these in a line.
LONG = ("fits", "first", "needed", "would", "ruled")
HUGE = 10 ** 18


def flat(calls):
    numbers = []
    for call in calls:
        numbers.append(NAMES.index(call[0]))
        numbers.extend(call[1:])
    return numbers


def split(numbers):
    found = []
    place = 0
    while place < len(numbers):
        end = place + 1 + numbers[place]
        found.append(numbers[place + 1:end])
        place = end
    return found


def answered(calls):
    """The answer of each call of the line, in order."""
    # Longer lines are not handed in, so nothing is said of them.
    assert 1 <= len(calls) <= 200 and sum(call[0] in LONG for call in calls) <= 40
    found = split(answers(flat(calls)))
    assert len(found) == len(calls)
    return found


def last_of(calls, more):
    """What the calls `more` answer behind the calls ahead of them."""
    return answered(list(calls) + list(more))[len(calls):]


def asked(calls, *call):
    """What one more call answers behind these."""
    return last_of(calls, [call])[0]


def first(*events):
    return ("first", len(events), *events)


def check(*times):
    return ("check", len(times), *times)


def adds(*numbers):
    return ("adds", len(numbers), *numbers)


def apart(count, kind="event"):
    """So many events, each of a box of its own: no bounds but those of evidence."""
    return [("box", 1, 1, 0)] * count + [(kind, k, 0) for k in range(count)]


def limits(*rows):
    return [("limit", *row) for row in rows]


def bounds_of(calls):
    """All bounds behind these calls, each as from which event, to which, w."""
    numbers = asked(calls, "bounds")
    rows = [tuple(numbers[k:k + 3]) for k in range(1, len(numbers), 3)]
    assert numbers[0] == len(rows)
    return rows
