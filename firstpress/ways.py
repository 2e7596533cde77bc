"""Ways and rings of bounds: least sums, the told way, the told ring."""

from firstpress.bounds import all_bounds


# sums[x][y] is the least sum of a way from x to y, None if there is no way.
# If there is no history, all that the sums say is that some event's way to itself is below 0.
class Survey:
    def __init__(self, record):
        self.size = len(record.events)
        self.bounds = all_bounds(record)
        self.sums = least_sums(self.size, self.bounds)

    def has_history(self):
        for x in range(self.size):
            if self.sums[x][x] < 0:
                return False
        return True

    # Surely so, if there is a history: how far x can be behind y tells it.
    def is_before(self, x, y):
        behind = self.sums[y][x]
        return behind is not None and behind < 0

    # Surely so, as above.
    def is_not_behind(self, x, y):
        behind = self.sums[y][x]
        return behind is not None and behind <= 0


def least_sums(size, bounds):
    sums = [no_bounds_sums(size, x) for x in range(size)]
    for bound in bounds:
        sums[bound.start][bound.end] = lesser(sums[bound.start][bound.end], bound.weight)
    for middle in range(size):
        for x in range(size):
            if sums[x][middle] is not None:
                sums[x] = led_through(sums[x], sums[x][middle], sums[middle])
    return sums


# By event, the sum of the way of no bounds between it and x.
def no_bounds_sums(size, x):
    sums = [None] * size
    sums[x] = 0
    return sums


def lesser(known, found):
    if known is None or found < known:
        return found
    return known


def led_through(direct, ahead, behind):
    best = []
    for known, rest in zip(direct, behind):
        best.append(known if rest is None else lesser(known, ahead + rest))
    return best


# sums[k] is the least sum of a way from event k to some goal; one bound more is put ahead of these ways.
def one_bound_more(bounds, sums):
    longer = [None] * len(sums)
    for bound in bounds:
        rest = sums[bound.end]
        if rest is not None:
            longer[bound.start] = lesser(longer[bound.start], bound.weight + rest)
    return longer


# levels[k][x] is the least sum of a way of just k bounds from x to the goal. Of the ways from start that have
# the last level's sum, the lesser number is taken at each bound, so that it is so at the first that differs.
def least_numbers(bounds, levels, start):
    numbers = []
    here = start
    for left in range(len(levels) - 1, 0, -1):
        number = least_number(bounds, here, levels[left][here], levels[left - 1])
        numbers.append(number)
        here = bounds[number].end
    return numbers


def least_number(bounds, here, wanted, rests):
    number = 0
    while not leads_on(bounds[number], here, wanted, rests):
        number += 1
    return number


def leads_on(bound, here, wanted, rests):
    rest = rests[bound.end]
    return bound.start == here and rest is not None and bound.weight + rest == wanted


# There must be a history, and a way from x to y.
def told_way(survey, x, y):
    levels = [no_bounds_sums(survey.size, y)]
    while levels[-1][x] != survey.sums[x][y]:
        levels.append(one_bound_more(survey.bounds, levels[-1]))
    return least_numbers(survey.bounds, levels, x)


# There must be no history: then a ring below 0 is found before there are more bounds than events.
def told_ring(survey):
    levels_to = [[no_bounds_sums(survey.size, x)] for x in range(survey.size)]
    while True:
        for x in range(survey.size):
            levels = levels_to[x]
            levels.append(one_bound_more(survey.bounds, levels[-1]))
            around = levels[-1][x]
            if around is not None and around < 0:
                return least_numbers(survey.bounds, levels, x)
