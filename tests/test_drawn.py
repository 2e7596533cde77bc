"""Many drawn lines: against a search over all ways, and against times that the lines were drawn from."""

import random
import unittest

from tests.lines import answered, last_of
from tests.reference import Reference

ASKS = ("most", "sure", "way")


def wild(draw, low, high):
    """Mostly a number from low to high, now and then one beyond."""
    pick = draw.random()
    if pick < 0.93:
        return draw.randint(low, high)
    if pick < 0.98:
        return draw.choice((low - 1, high + 1))
    return draw.choice((-10 ** 18, 10 ** 18))


def drawn_call(draw, size):
    if draw.random() < 0.05:
        event = ("event", wild(draw, 0, 3), wild(draw, 0, 4))
        return draw.choice((event, ("box", wild(draw, 1, 2), 2, wild(draw, 0, 2))))
    name = draw.choice(("wire", "sent", "heard", "heard", "heard", "limit", "limit", "limit", "limit", "drop"))
    event = wild(draw, 0, size - 1)
    if name == "wire":
        return (name, wild(draw, 0, 2), wild(draw, 0, 2), wild(draw, 0, 3), wild(draw, -1, 6))
    if name == "sent":
        return (name, event)
    if name == "heard":
        return (name, wild(draw, 0, 2), event)
    if name == "drop":
        return (name, wild(draw, 0, 3))
    low = draw.randint(-5, 5)
    return (name, wild(draw, 0, size - 1), event, low, low + draw.randint(-1, 3))


def drawn_line(draw):
    """Few small numbers, so that sums are often alike and rings often below 0."""
    size = draw.choice((2, 3, 3, 4, 4))
    calls = []
    for _ in range(3):
        slow = draw.randint(1, 2)
        calls.append(("box", slow, slow + draw.randint(0, 2), draw.randint(0, 2)))
    for stamp in sorted(draw.randint(0, 4) for _ in range(size)):
        calls.append((draw.choice(("event", "press")), draw.randint(0, 2), stamp))
    calls += [("wire", i, j, draw.randint(0, 2), draw.choice((-1, 3, 4))) for i in range(3) for j in range(3)]
    calls += [("sent", draw.randint(0, size - 1)) for _ in range(2)]
    for _ in range(draw.randint(0, 10)):
        calls.append(drawn_call(draw, size))
        if draw.random() < 0.5:
            calls += [("fits",), (draw.choice(ASKS), draw.randint(0, size - 1), draw.randint(0, size - 1))]
    calls += [("fits",)] + [(name, x, y) for name in ASKS for x in range(size) for y in range(size)]
    return calls


class AgainstAllWays(unittest.TestCase):
    def test_drawn_lines(self):
        draw = random.Random(20261116)
        seen = {"fits": 0, "breaks": 0, "longer": 0}
        for k in range(500):
            calls = drawn_line(draw)
            reference = Reference()
            wanted = [reference.answer(call) for call in calls]
            with self.subTest(k=k, calls=calls):
                self.assertEqual(answered(calls), wanted)
            verdict = next(answer for call, answer in zip(reversed(calls), reversed(wanted)) if call[0] == "fits")
            seen["fits" if verdict == [1] else "breaks"] += 1
            seen["longer"] += len(verdict) > 4
        # The drawn lines must be of both kinds, or they say little.
        self.assertGreater(min(seen["fits"], seen["breaks"]), 100)
        self.assertGreater(seen["longer"], 10)

    def test_drawn_graphs_of_five_events(self):
        draw = random.Random(59)
        for k in range(60):
            calls = [("box", 1, 1, 0)] * 5 + [("event", i, 0) for i in range(5)]
            for _ in range(draw.randint(3, 7)):
                x, y = draw.sample(range(5), 2)
                low = draw.randint(-2, 3)
                calls.append(("limit", x, y, low, low + draw.randint(0, 3)))
            calls += [("fits",)] + [("way", x, y) for x, y in ((0, 4), (4, 0), (1, 3), (3, 2))]
            reference = Reference()
            wanted = [reference.answer(call) for call in calls]
            with self.subTest(k=k, calls=calls):
                self.assertEqual(answered(calls), wanted)


def true_line(draw):
    """A line that is true of some times, with as many events as there may be; and these times."""
    calls, times, stamps = [], [], []
    rates = [(slow, slow + draw.randint(0, 3)) for slow in (draw.randint(1, 5) for _ in range(4))]
    clocks = [[draw.randint(0, 300), draw.randint(0, 50)] for _ in rates]
    for slow, fast in rates:
        calls.append(("box", slow, fast, draw.randint(0, 3)))
    for _ in range(16):
        i = draw.randrange(4)
        gone = draw.randint(0, 20)
        clocks[i][1] += gone
        clocks[i][0] += draw.randint(gone * rates[i][0], gone * rates[i][1])
        calls.append((draw.choice(("event", "press")), i, clocks[i][1]))
        times.append(clocks[i][0])
        stamps.append((i, clocks[i][1]))
    calls += [("wire", i, j, 0, draw.choice((-1, 600))) for i in range(4) for j in range(4) if i != j]
    origins = [draw.randrange(16) for _ in range(6)]
    calls += [("sent", x) for x in origins]
    for _ in range(12):
        m, y = draw.randrange(6), draw.randrange(16)
        if stamps[y][0] != stamps[origins[m]][0] and 0 <= times[y] - times[origins[m]] <= 600:
            calls.append(("heard", m, y))
        x, y = draw.sample(range(16), 2)
        gone = times[y] - times[x]
        if draw.random() < 0.6:
            calls.append(("limit", x, y, gone - draw.randint(0, 40), gone + draw.randint(0, 40)))
    return calls, times


def reference_of(calls):
    reference = Reference()
    for call in calls:
        reference.answer(call)
    return reference


class AgainstTimes(unittest.TestCase):
    def test_what_is_told_is_true(self):
        draw = random.Random(7)
        for k in range(40):
            calls, times = true_line(draw)
            pairs = [(x, y) for x in range(16) for y in draw.sample(range(16), 4)]
            most = last_of(calls, [("most", x, y) for x, y in pairs])
            sure = last_of(calls, [("sure", x, y) for x, y in pairs])
            with self.subTest(k=k, calls=calls):
                self.assertEqual(last_of(calls, [("fits",)]), [[1]])
                for (x, y), answer, verdict in zip(pairs, most, sure):
                    if answer[0] == 1:
                        self.assertLessEqual(times[y] - times[x], answer[1])
                    if verdict == [2]:
                        self.assertLess(times[x], times[y])
                    if verdict == [1]:
                        self.assertLessEqual(times[x], times[y])

    def test_a_way_adds_up_and_some_history_reaches_the_most(self):
        draw = random.Random(8)
        for k in range(40):
            calls, _ = true_line(draw)
            bounds = reference_of(calls).bounds()
            x = draw.randrange(16)
            most = last_of(calls, [("most", x, y) for y in range(16)])
            ways = last_of(calls, [("way", x, y) for y in range(16)])
            with self.subTest(k=k, calls=calls):
                for y in range(16):
                    self.assertEqual(ways[y][0], most[y][0])
                    if most[y][0] == 1:
                        self.assertEqual(ways[y][1], len(ways[y]) - 2)
                        self.assertEqual(added(bounds, ways[y][2:], x), (y, most[y][1]))
                # Each event at the most that it can be behind x; those with no bound far enough behind all of these.
                far = 10 ** 9
                times = [answer[1] if answer[0] == 1 else far for answer in most]
                for start, end, w in bounds:
                    if times[start] != far:
                        self.assertNotEqual(times[end], far)
                        self.assertLessEqual(times[end] - times[start], w)

    def test_sure_goes_with_most(self):
        draw = random.Random(9)
        for _ in range(20):
            calls, _ = true_line(draw)
            pairs = [(x, y) for x in range(16) for y in draw.sample(range(16), 4)]
            most = last_of(calls, [("most", y, x) for x, y in pairs])
            sure = last_of(calls, [("sure", x, y) for x, y in pairs])
            for answer, verdict in zip(most, sure):
                wanted = 0 if answer[0] == 0 or answer[1] > 0 else 2 if answer[1] < 0 else 1
                self.assertEqual(verdict, [wanted])

    def test_a_ring_told_is_below_0(self):
        draw = random.Random(10)
        broken = 0
        for k in range(60):
            calls, times = true_line(draw)
            for _ in range(2):
                x, y = draw.sample(range(16), 2)
                gone = times[y] - times[x] + draw.choice((-150, 150))
                calls.append(("limit", x, y, gone - 20, gone + 20))
            answer = last_of(calls, [("fits",)])[0]
            if answer == [1]:
                continue
            broken += 1
            bounds = reference_of(calls).bounds()
            numbers = answer[2:]
            start = bounds[numbers[0]][0]
            end, total = added(bounds, numbers, start)
            with self.subTest(k=k, calls=calls):
                self.assertEqual(answer[:2], [0, len(numbers)])
                self.assertEqual(end, start)
                self.assertLess(total, 0)
                self.assertEqual(start, min(bounds[number][0] for number in numbers))
                self.assertEqual(len(numbers), fewest_below_0(bounds))
        self.assertGreater(broken, 20)


def added(bounds, numbers, start):
    """Where these bounds lead to from start, and their sum."""
    here, total = start, 0
    for number in numbers:
        if bounds[number][0] != here:
            raise AssertionError("not a way")
        here, total = bounds[number][1], total + bounds[number][2]
    return here, total


def fewest_below_0(bounds):
    """How many bounds the shortest ring below 0 has: each step keeps the least sum between each two events."""
    sums = {(x, x): 0 for x in range(16)}
    length = 0
    while True:
        length += 1
        longer = {}
        for (x, y), total in sums.items():
            for start, end, w in bounds:
                if start == y:
                    longer[x, end] = min(longer.get((x, end), total + w), total + w)
        sums = longer
        if any(x == y and total < 0 for (x, y), total in sums.items()):
            return length


if __name__ == "__main__":
    unittest.main()
