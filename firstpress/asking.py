"""The calls that ask for sums, ways and histories: each answers numbers, and changes nothing."""

from firstpress.refusals import NO_HISTORY
from firstpress.ways import Survey, told_ring, told_way


def ask(record, number, given):
    survey = Survey(record)
    if number == 8:
        return ask_fits(survey)
    if not survey.has_history():
        return [NO_HISTORY]
    if number == 9:
        return ask_most(survey, given[0], given[1])
    if number == 10:
        return ask_sure(survey, given[0], given[1])
    if number == 11:
        return ask_way(survey, given[0], given[1])
    if number == 14:
        return ask_history(survey)
    return ask_late(survey, given[0])


def counted(numbers):
    return [len(numbers)] + numbers


def ask_fits(survey):
    if survey.has_history():
        return [1]
    return [0] + counted(told_ring(survey))


def ask_most(survey, x, y):
    most = survey.sums[x][y]
    if most is None:
        return [0]
    return [1, most]


def ask_sure(survey, x, y):
    if survey.is_before(x, y):
        return [2]
    if survey.is_not_behind(x, y):
        return [1]
    return [0]


def ask_way(survey, x, y):
    if survey.sums[x][y] is None:
        return [0]
    return [1] + counted(told_way(survey, x, y))


def ask_history(survey):
    times = [least_to(survey, y) for y in range(survey.size)]
    earliest = min(times, default=0)
    return counted([moment - earliest for moment in times])


# The least sum of a way to y from any event; the way of no bounds is one, so it is 0 or below.
def least_to(survey, y):
    return min([row[y] for row in survey.sums if row[y] is not None])


def ask_late(survey, x):
    times = survey.sums[x]
    if None in times:
        return [0]
    return [1] + counted(times)
