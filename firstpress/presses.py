"""A line of calls on a new record, answered one behind another."""

from firstpress.asking import ask
from firstpress.layout import KINDS, in_ranges, read_call
from firstpress.record import Record
from firstpress.refusals import NOT_THERE, OUT_OF_RANGE
from firstpress.ruling import rule
from firstpress.showing import show
from firstpress.telling import tell

# Which calls each of these answers; ask answers all others.
TELLS = (0, 1, 2, 3, 4, 5, 6, 7, 20, 21)
SHOWS = (13, 16, 19, 23)
RULES = (12, 17, 18, 22)


def answers(calls):
    record = Record()
    given_back = []
    place = 0
    while place < len(calls):
        call = read_call(calls, place)
        answer = answer_call(record, call)
        given_back.append(len(answer))
        given_back.extend(answer)
        place = call.end
    return given_back


def answer_call(record, call):
    kinds = KINDS[call.number]
    if not in_ranges(kinds, call.given):
        return [OUT_OF_RANGE]
    if not record.has_all(kinds, call.given):
        return [NOT_THERE]
    if call.number in TELLS:
        return tell(record, call.number, call.given)
    if call.number in SHOWS:
        return show(record, call.number, call.row)
    if call.number in RULES:
        return rule(record, call.number, call.given, call.row)
    return ask(record, call.number, call.given)
