"""The document's four promises, over drawn lines: against times that they are true of, and of one call by another."""

import random
import unittest
from collections import Counter

from tests.drawing import drawn_start, drawn_telling
from tests.lines import adds, asked, bounds_of, check, first, last_of
from tests.reference import Reference
from tests.truth import Truth


def true_lines(seed, count):
    draw = random.Random(seed)
    for _ in range(count):
        truth = Truth(draw)
        yield draw, truth, truth.line()


def small_lines(seed, count):
    """Few events and small numbers, so that there is often something at one moment; all of them fit."""
    draw = random.Random(seed)
    while count:
        reference, calls = Reference(), []
        for call in drawn_start(draw, draw.randint(2, 6)):
            reference.answer(call)
            calls.append(call)
        for _ in range(draw.randint(1, 8)):
            call = drawn_telling(draw, reference)
            if call[0] != "drop" and reference.answer(call)[0] >= 0:
                calls.append(call)
        if asked(calls, "fits") == [1]:
            count -= 1
            yield draw, calls, len(reference.events)


def pairs_of(size):
    return [(x, y) for x in range(size) for y in range(size) if x != y]


def drawn_set(draw, size):
    return sorted(draw.sample(range(size), draw.randint(1, size)))


class Histories(unittest.TestCase):
    """Point 1: first, most and sure hold of every history; where something isn't sure, late tells one."""

    def test_what_is_told_is_true(self):
        for draw, truth, calls in true_lines(7, 40):
            times = truth.times
            pairs = [(x, y) for x in range(16) for y in draw.sample(range(16), 2)]
            looked_at = drawn_set(draw, 16)
            most = last_of(calls, [("most", x, y) for x, y in pairs])
            sure = last_of(calls, [("sure", x, y) for x, y in pairs])
            with self.subTest(calls=calls):
                found = last_of(calls, [("fits",), check(*times), first(*looked_at)])
                self.assertEqual(found[:2], [[1], [1]])
                leads = found[2][1:] if found[2][0] == 1 else found[2][2:]
                self.assertTrue(set(leads) & {x for x in looked_at if times[x] == min(times[y] for y in looked_at)})
                for (x, y), answer, verdict in zip(pairs, most, sure):
                    if answer[0] == 1:
                        self.assertLessEqual(times[y] - times[x], answer[1])
                    if verdict == [2]:
                        self.assertLess(times[x], times[y])
                    if verdict == [1]:
                        self.assertLessEqual(times[x], times[y])

    def test_history_and_late_tell_histories(self):
        seen = Counter()
        lines = [(calls, 16) for _, _, calls in true_lines(8, 20)]
        lines += [(calls, size) for _, calls, size in small_lines(18, 60)]
        for calls, size in lines:
            told = asked(calls, "history")
            lates = last_of(calls, [("late", x) for x in range(size)])
            with self.subTest(calls=calls):
                self.assertEqual(told[0], len(told) - 1)
                self.assertEqual(min(told[1:]), 0)
                self.assertEqual(asked(calls, *check(*told[1:])), [1])
                for x, late in enumerate(lates):
                    behind = last_of(calls, [("most", x, y) for y in range(size)])
                    seen[late[0]] += 1
                    if [0] in behind:
                        self.assertEqual(late, [0])
                    else:
                        self.assertEqual(late, [1, size] + [answer[1] for answer in behind])
                        self.assertEqual(asked(calls, *check(*late[2:])), [1])
        self.assertGreater(min(seen[0], seen[1]), 30)

    def test_where_it_is_not_sure_late_tells_it(self):
        seen = Counter()
        for _, calls, size in small_lines(19, 150):
            pairs = pairs_of(size)
            sure = last_of(calls, [("sure", x, y) for x, y in pairs])
            lates = last_of(calls, [("late", x) for x in range(size)])
            with self.subTest(calls=calls):
                for (x, y), verdict in zip(pairs, sure):
                    if lates[y][0] == 0:
                        continue
                    times = lates[y][2:]
                    seen[verdict[0]] += 1
                    if verdict == [0]:
                        self.assertGreater(times[x], times[y])
                    elif verdict == [1]:
                        self.assertEqual(times[x], times[y])
                    else:
                        self.assertLess(times[x], times[y])
        self.assertGreater(min(seen[0], seen[1], seen[2]), 30)

    def test_sure_goes_with_most(self):
        for draw, _, calls in true_lines(9, 20):
            pairs = [(x, y) for x in range(16) for y in draw.sample(range(16), 4)]
            most = last_of(calls, [("most", y, x) for x, y in pairs])
            sure = last_of(calls, [("sure", x, y) for x, y in pairs])
            for answer, verdict in zip(most, sure):
                wanted = 0 if answer[0] == 0 or answer[1] > 0 else 2 if answer[1] < 0 else 1
                self.assertEqual(verdict, [wanted])


class Sums(unittest.TestCase):
    """Point 2: a ring told has a sum below 0, a way told has the least sum; adds tells both."""

    def test_a_way_adds_up_and_some_history_reaches_the_most(self):
        for draw, _, calls in true_lines(10, 40):
            bounds = bounds_of(calls)
            x = draw.randrange(16)
            most = last_of(calls, [("most", x, y) for y in range(16)])
            ways = last_of(calls, [("way", x, y) for y in range(16)])
            with self.subTest(calls=calls):
                for y in range(16):
                    self.assertEqual(ways[y][0], most[y][0])
                    if most[y][0] == 1:
                        self.assertEqual(ways[y][1], len(ways[y]) - 2)
                    if most[y][0] == 1 and x != y:
                        self.assertEqual(asked(calls, *adds(*ways[y][2:])), [1, x, y, most[y][1]])
                # Each event at the most that it can be behind x; those with no bound far enough behind all of these.
                far = 10 ** 9
                times = [answer[1] if answer[0] == 1 else far for answer in most]
                for start, end, w in bounds:
                    if times[start] != far:
                        self.assertNotEqual(times[end], far)
                        self.assertLessEqual(times[end] - times[start], w)

    def test_a_ring_told_is_below_0(self):
        broken = 0
        for draw, truth, calls in true_lines(11, 60):
            for _ in range(2):
                x, y = draw.sample(range(16), 2)
                gone = truth.times[y] - truth.times[x] + draw.choice((-150, 150))
                calls.append(("limit", x, y, gone - 20, gone + 20))
            answer = asked(calls, "fits")
            if answer == [1]:
                continue
            broken += 1
            bounds = bounds_of(calls)
            numbers = answer[2:]
            start = bounds[numbers[0]][0]
            found = asked(calls, *adds(*numbers))
            with self.subTest(calls=calls):
                self.assertEqual(answer[:2], [0, len(numbers)])
                self.assertEqual(found[:3], [1, start, start])
                self.assertLess(found[3], 0)
                self.assertEqual(start, min(bounds[number][0] for number in numbers))
                self.assertEqual(len(numbers), fewest_below_0(bounds))
                # Whatever the times, one of the ring's bounds doesn't hold: so check finds one at least.
                self.assertEqual(asked(calls, *check(*truth.times))[0], 0)
        self.assertGreater(broken, 20)


class MayBeFirst(unittest.TestCase):
    """Point 3: an event may be first of a set just if none of the others is surely before it."""

    def held(self, calls, looked_at, seen):
        pairs = [(x, y) for x in looked_at for y in looked_at if x != y]
        sure = dict(zip(pairs, last_of(calls, [("sure", x, y) for x, y in pairs])))
        able = [x for x in looked_at if all(sure[y, x] != [2] for y in looked_at if y != x)]
        alone = [x for x in looked_at if all(sure[x, y] == [2] for y in looked_at if y != x)]
        found = asked(calls, *first(*looked_at))
        seen[found[0], min(len(looked_at), 3)] += 1
        with self.subTest(calls=calls, looked_at=looked_at):
            self.assertEqual(found, [1] + alone if alone else [0, len(able)] + able)

    def test_small_lines(self):
        seen = Counter()
        for draw, calls, size in small_lines(21, 200):
            for _ in range(3):
                self.held(calls, drawn_set(draw, size), seen)
        self.assertGreater(min(seen[0, 2], seen[1, 2], seen[0, 3], seen[1, 3]), 20)

    def test_sixteen_events(self):
        seen = Counter()
        for draw, _, calls in true_lines(22, 20):
            self.held(calls, sorted(draw.sample(range(16), draw.randint(3, 12))), seen)
        self.assertGreater(min(seen[0, 3], seen[1, 3]), 2)

    def test_in_a_history_in_which_it_is_first(self):
        """Each one that may be first is so in some history: it fits that it isn't behind any of the others."""
        for draw, calls, size in small_lines(23, 150):
            looked_at = drawn_set(draw, size)
            found = asked(calls, *first(*looked_at))
            able = found[1:] if found[0] == 1 else found[2:]
            for x in looked_at:
                ahead = [("limit", x, y, 0, 10 ** 9) for y in looked_at if y != x]
                with self.subTest(calls=calls, looked_at=looked_at, x=x):
                    self.assertEqual(asked(calls + ahead, "fits") == [1], x in able)


class Growing(unittest.TestCase):
    """Point 4: more events and more evidence never make unsure what was sure, as long as something fits."""

    def test_what_was_sure_stays_so(self):
        grown = 0
        for draw, calls, size in small_lines(31, 150):
            pairs = pairs_of(size)
            asks = [("sure", x, y) for x, y in pairs]
            looked_at = drawn_set(draw, size)
            before = last_of(calls, asks + [first(*looked_at)])
            more = calls + self.drawn_more(draw, calls)
            if asked(more, "fits") != [1]:
                continue
            after = last_of(more, asks + [first(*looked_at)])
            grown += 1
            with self.subTest(calls=calls, more=more):
                for earlier, later in zip(before[:-1], after[:-1]):
                    self.assertGreaterEqual(later[0], earlier[0])
                if before[-1][0] == 1:
                    self.assertEqual(after[-1], before[-1])
                elif after[-1][0] == 1:
                    self.assertIn(after[-1][1], before[-1][2:])
                else:
                    self.assertLessEqual(set(after[-1][2:]), set(before[-1][2:]))
        self.assertGreater(grown, 75)

    def drawn_more(self, draw, calls):
        reference, more = Reference(), []
        for call in calls:
            reference.answer(call)
        while len(more) < 3:
            call = drawn_telling(draw, reference)
            if call[0] not in ("drop", "wire") and reference.answer(call)[0] >= 0:
                more.append(call)
        return more

    def test_true_lines_grow(self):
        for draw, truth, calls in true_lines(32, 20):
            pairs = [(x, y) for x in range(16) for y in draw.sample(range(16), 4)]
            asks = [("sure", x, y) for x, y in pairs]
            more = calls + [truth.limit(*draw.sample(range(16), 2), 20) for _ in range(6)]
            for earlier, later in zip(last_of(calls, asks), last_of(more, asks)):
                self.assertGreaterEqual(later[0], earlier[0])

    def test_what_is_ruled_is_first_of_all_presses(self):
        seen = Counter()
        draw = random.Random(33)
        for _ in range(300):
            truth = Truth(draw, events=12, boxes=draw.randint(1, 3))
            calls = truth.calls + [truth.limit(*draw.sample(range(12), 2), 20) for _ in range(14)]
            found = asked(calls, "ruled")
            seen[found[0]] += 1
            if found[0] != 1:
                continue
            x = found[1]
            events = [call for call in calls if call[0] in ("event", "press", "report")]
            with self.subTest(calls=calls):
                self.assertEqual(asked(calls, *first()), [1, x])
                for y, event in enumerate(events):
                    if event[0] == "press" and x != y:
                        self.assertLess(truth.times[x], truth.times[y])
                for moment in truth.hidden:
                    self.assertLess(truth.times[x], moment)
        self.assertGreater(min(seen[0], seen[1]), 50)


def fewest_below_0(bounds):
    """How many bounds the shortest ring below 0 has: each step keeps the least sum between each two events."""
    sums = {(x, x): 0 for x in range(16)}
    length = 0
    while True:
        length += 1
        longer = {}
        for (x, y), total in sums.items():
            for start, end, w in bounds:
                if start == y:
                    longer[x, end] = min(longer.get((x, end), total + w), total + w)
        sums = longer
        if any(x == y and total < 0 for (x, y), total in sums.items()):
            return length


if __name__ == "__main__":
    unittest.main()
