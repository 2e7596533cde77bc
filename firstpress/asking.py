"""The calls that ask: each answers numbers, and changes nothing."""

from firstpress.refusals import NO_HISTORY
from firstpress.ways import Survey, told_ring, told_way


def ask(record, number, given):
    survey = Survey(record)
    if number == 8:
        return ask_fits(survey)
    if not survey.has_history():
        return [NO_HISTORY]
    if number == 9:
        return ask_most(survey, given[0], given[1])
    if number == 10:
        return ask_sure(survey, given[0], given[1])
    return ask_way(survey, given[0], given[1])


def counted(numbers):
    return [len(numbers)] + numbers


def ask_fits(survey):
    if survey.has_history():
        return [1]
    return [0] + counted(told_ring(survey))


def ask_most(survey, x, y):
    most = survey.sums[x][y]
    if most is None:
        return [0]
    return [1, most]


def ask_sure(survey, x, y):
    # How far x can be behind y tells it: never at all, or at most at one moment with it.
    behind = survey.sums[y][x]
    if behind is None or behind > 0:
        return [0]
    if behind == 0:
        return [1]
    return [2]


def ask_way(survey, x, y):
    if survey.sums[x][y] is None:
        return [0]
    return [1] + counted(told_way(survey, x, y))
