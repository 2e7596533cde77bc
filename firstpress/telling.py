"""The calls that tell something: each answers numbers, and changes the record unless it is refused."""

from firstpress.record import PLAIN, PRESS, REPORT, Box, Event, Hearing, Limit, Wire
from firstpress.refusals import ALIKE, FALLS_BACK, FULL, NO_DELAY, OUT_OF_RANGE, WOKEN


def tell(record, number, given):
    if number == 0:
        return tell_box(record, given[0], given[1], given[2])
    if number == 1:
        return tell_wire(record, given[0], given[1], given[2], given[3])
    if number == 2:
        return tell_event(record, given[0], given[1], PLAIN)
    if number == 3:
        return tell_event(record, given[0], given[1], PRESS)
    if number == 4:
        return tell_sent(record, given[0])
    if number == 5:
        return tell_heard(record, given[0], given[1])
    if number == 6:
        return tell_limit(record, given[0], given[1], given[2], given[3])
    if number == 7:
        return tell_drop(record, given[0])
    if number == 20:
        return tell_event(record, given[0], given[1], REPORT)
    return tell_wakes(record, given[0])


def put_behind(things, thing):
    things.append(thing)
    return [len(things) - 1]


def tell_box(record, slow, fast, grain):
    # The range of the fast rate begins at the slow one, which no table of ranges can say.
    if fast < slow:
        return [OUT_OF_RANGE]
    if record.is_full("box"):
        return [FULL]
    return put_behind(record.boxes, Box(slow, fast, grain, len(record.boxes)))


def tell_wire(record, i, j, least, greatest):
    start = record.boxes[i].team
    end = record.boxes[j].team
    if start == end:
        return [ALIKE]
    if greatest == -1:
        record.wires[(start, end)] = Wire(least, None)
        return [0]
    if greatest < least:
        return [NO_DELAY]
    record.wires[(start, end)] = Wire(least, greatest)
    return [0]


# The number of the refusal, or None.
def event_refusal(record, i, stamp):
    if record.boxes[i].woken:
        return WOKEN
    if stamp < record.last_stamp(i):
        return FALLS_BACK
    if record.is_full("event"):
        return FULL
    return None


def tell_event(record, i, stamp, kind):
    refusal = event_refusal(record, i, stamp)
    if refusal is not None:
        return [refusal]
    return put_behind(record.events, Event(i, stamp, kind))


def tell_sent(record, x):
    if record.is_full("message"):
        return [FULL]
    return put_behind(record.messages, x)


# Why a team can't have heard the message: the number of the refusal, or None.
def hearing_refusal(record, m, team):
    sender = record.team_of(record.messages[m])
    if sender == team:
        return ALIKE
    if (sender, team) not in record.wires:
        return NO_DELAY
    return None


def tell_heard(record, m, y):
    refusal = hearing_refusal(record, m, record.team_of(y))
    if refusal is not None:
        return [refusal]
    if record.is_full("evidence"):
        return [FULL]
    return put_behind(record.evidence, Hearing(m, y))


def tell_limit(record, x, y, least, most):
    if x == y:
        return [ALIKE]
    if most < least:
        return [NO_DELAY]
    if record.is_full("evidence"):
        return [FULL]
    return put_behind(record.evidence, Limit(x, y, least, most))


def tell_drop(record, k):
    record.evidence.pop(k)
    return [len(record.evidence)]


def tell_wakes(record, i):
    old = record.boxes[i]
    if old.woken:
        return [WOKEN]
    if record.is_full("box"):
        return [FULL]
    old.woken = True
    return put_behind(record.boxes, Box(old.slow, old.fast, old.grain, old.team))
