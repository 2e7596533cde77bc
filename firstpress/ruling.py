"""The calls that tell who was first, what that hangs on, and whether it is ruled."""

from firstpress.asking import counted
from firstpress.record import PLAIN, Event, Hearing
from firstpress.refusals import FULL, NO_HISTORY, NO_PRESS, NOT_AS_TOLD, NOT_BEFORE, WOULD_BREAK
from firstpress.telling import event_refusal, hearing_refusal
from firstpress.ways import Survey


def rule(record, number, given, row):
    if number == 12:
        return rule_first(record, row)
    if number == 17:
        return rule_needed(record, given[0], given[1])
    if number == 18:
        return rule_would(record, given[0], given[1], given[2])
    return rule_ruled(record)


def rule_first(record, row):
    if not are_rising_events(record, row):
        return [NOT_AS_TOLD]
    survey = Survey(record)
    if not survey.has_history():
        return [NO_HISTORY]
    events = row if len(row) > 0 else record.presses()
    if len(events) == 0:
        return [NO_PRESS]
    return first_of(survey, events)


def are_rising_events(record, row):
    least = 0
    for x in row:
        if x < least or x >= len(record.events):
            return False
        least = x + 1
    return True


def first_of(survey, events):
    able = may_be_first(survey, events)
    if len(able) == 1:
        return [1, able[0]]
    return [0] + counted(able)


# If it is just one, that is surely first: each of the others has one surely before it, which leads back to this one.
def may_be_first(survey, events):
    return [x for x in events if not has_one_before(survey, events, x)]


def has_one_before(survey, events, x):
    return any([survey.is_before(y, x) for y in events])


def rule_needed(record, x, y):
    survey = Survey(record)
    if not survey.has_history():
        return [NO_HISTORY]
    if not survey.is_before(x, y):
        return [NOT_BEFORE]
    return counted([k for k in range(len(record.evidence)) if not Survey(less_one(record, k)).is_before(x, y)])


def less_one(record, k):
    return record.but_with(record.events, record.evidence[:k] + record.evidence[k + 1:])


def rule_would(record, m, i, stamp):
    refusal = would_refusal(record, m, i, stamp)
    if refusal is not None:
        return [refusal]
    presses = record.presses()
    if len(presses) == 0:
        return [NO_PRESS]
    hearing = Hearing(m, len(record.events))
    more = record.but_with(record.events + [Event(i, stamp, PLAIN)], record.evidence + [hearing])
    survey = Survey(more)
    if not survey.has_history():
        return [WOULD_BREAK]
    return first_of(survey, presses)


# Why the event and the hearing couldn't be told: the number of the refusal, or None.
def would_refusal(record, m, i, stamp):
    refusal = event_refusal(record, i, stamp)
    if refusal is not None:
        return refusal
    if record.is_full("evidence"):
        return FULL
    return hearing_refusal(record, m, record.boxes[i].team)


def rule_ruled(record):
    survey = Survey(record)
    if not survey.has_history():
        return [NO_HISTORY]
    presses = record.presses()
    if len(presses) == 0:
        return [NO_PRESS]
    able = may_be_first(survey, presses)
    if len(able) > 1:
        return [0, 0]
    left = unclosed_teams(record, survey, able[0])
    if len(left) == 0:
        return [1, able[0]]
    return [0] + counted(left)


def unclosed_teams(record, survey, x):
    return [team for team in record.teams() if is_unclosed(record, survey, team, x)]


# The team is open behind x: it may have pressed no later than x without having told it.
def is_unclosed(record, survey, team, x):
    if team == record.team_of(x):
        return False
    report = record.last_report(team)
    return report is None or not survey.is_not_behind(x, report)
