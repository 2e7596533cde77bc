"""The calls that need no history: what was told, the bounds, and rows that are held against them."""

from firstpress.bounds import all_bounds
from firstpress.layout import in_ranges
from firstpress.refusals import NOT_AS_TOLD


def show(record, number, row):
    if number == 13:
        return show_bounds(record)
    if number == 16:
        return show_check(record, row)
    if number == 19:
        return show_adds(record, row)
    return show_told(record)


def show_bounds(record):
    bounds = all_bounds(record)
    shown = [len(bounds)]
    for bound in bounds:
        shown.extend([bound.start, bound.end, bound.weight])
    return shown


def show_check(record, times):
    size = len(record.events)
    if len(times) != size or not in_ranges(["time"] * size, times):
        return [NOT_AS_TOLD]
    for number, bound in enumerate(all_bounds(record)):
        if times[bound.end] - times[bound.start] > bound.weight:
            return [0, number]
    return [1]


def show_adds(record, numbers):
    bounds = all_bounds(record)
    if not all([0 <= number < len(bounds) for number in numbers]):
        return [NOT_AS_TOLD]
    row = [bounds[number] for number in numbers]
    if not is_way(row):
        return [0]
    return [1, row[0].start, row[-1].end, sum([bound.weight for bound in row])]


# Of one bound at least: a row of none doesn't say which event it is at.
def is_way(row):
    if len(row) == 0:
        return False
    return all([bound.end == behind.start for bound, behind in zip(row, row[1:])])


def show_told(record):
    shown = [len(record.boxes)]
    for box in record.boxes:
        shown.extend([box.slow, box.fast, box.grain, box.team])
    shown.append(len(record.events))
    for event in record.events:
        shown.extend([event.box, event.stamp, event.kind])
    return shown
