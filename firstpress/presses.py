"""A line of calls on a new record, answered one behind another."""

from firstpress.asking import ask
from firstpress.layout import KINDS, in_ranges, read_call
from firstpress.record import Record
from firstpress.refusals import NOT_THERE, OUT_OF_RANGE
from firstpress.telling import tell


# A call that has its layout, but that nothing answers so far.
class NotAnsweredYet(NotImplementedError):
    pass


def answers(calls):
    record = Record()
    given_back = []
    place = 0
    while place < len(calls):
        call = read_call(calls, place)
        answer = answer_call(record, call)
        given_back.append(len(answer))
        given_back.extend(answer)
        place = call.end
    return given_back


def answer_call(record, call):
    kinds = KINDS[call.number]
    if not in_ranges(kinds, call.given):
        return [OUT_OF_RANGE]
    if not record.has_all(kinds, call.given):
        return [NOT_THERE]
    if call.number < 8:
        return tell(record, call.number, call.given)
    if call.number < 12:
        return ask(record, call.number, call.given)
    raise NotAnsweredYet("first to told, calls 12 to 23, are not answered yet")
