"""Lines of calls written by name, and their answers split by call."""

from firstpress.presses import answers

NAMES = (
    "box", "wire", "event", "press", "sent", "heard", "limit", "drop", "fits", "most", "sure", "way",
    "first", "bounds", "history", "late", "check", "needed", "would", "adds", "report", "wakes", "ruled", "told",
)
HUGE = 10 ** 18


def flat(calls):
    numbers = []
    for call in calls:
        numbers.append(NAMES.index(call[0]))
        numbers.extend(call[1:])
    return numbers


def split(numbers):
    found = []
    place = 0
    while place < len(numbers):
        end = place + 1 + numbers[place]
        found.append(numbers[place + 1:end])
        place = end
    return found


def answered(calls):
    """The answer of each call of the line, in order."""
    found = split(answers(flat(calls)))
    assert len(found) == len(calls)
    return found


def last_of(calls, more):
    """What the calls `more` answer behind the calls ahead of them."""
    return answered(list(calls) + list(more))[len(calls):]


def apart(count):
    """So many events, each of a box of its own: no bounds but those of evidence."""
    return [("box", 1, 1, 0)] * count + [("event", k, 0) for k in range(count)]
