"""Many drawn lines of all calls, against a search over all ways."""

import random
import unittest
from collections import Counter

from tests.drawing import drawn_line
from tests.lines import answered
from tests.reference import Reference

# The first number of answers that the drawn lines must meet.
SEEN = {
    "fits": (0, 1), "most": (-8, -4, -1, 0, 1), "sure": (-8, -4, -1, 0, 1, 2), "way": (-8, -4, -1, 0, 1),
    "first": (-9, -8, -2, 0, 1), "history": (-8, 2, 3, 4, 5), "late": (-8, -4, -1, 0, 1), "check": (-2, 0, 1),
    "needed": (-9, -8, -4, -1, 0, 1, 2), "would": (-11, -10, -9, -6, -5, -4, -3, -1, 0, 1), "adds": (-2, 0, 1),
    "report": (-11, -3, 1), "wakes": (-11, -4, -1, 1), "ruled": (-9, -8, 0, 1),
}


class AgainstAllWays(unittest.TestCase):
    def test_drawn_lines(self):
        draw = random.Random(20261116)
        seen = Counter()
        for k in range(800):
            calls, wanted = drawn_line(draw)
            with self.subTest(k=k, calls=calls):
                self.assertEqual(answered(calls), wanted)
            seen.update((call[0], answer[0]) for call, answer in zip(calls, wanted))
            seen["long ring"] += sum(call[0] == "fits" and len(answer) > 4 for call, answer in zip(calls, wanted))
        # The drawn lines must meet each sort of answer often, or they say little.
        for name, leads in SEEN.items():
            for lead in leads:
                self.assertGreater(seen[name, lead], 4, (name, lead))
        self.assertGreater(seen["long ring"], 10)

    def test_drawn_graphs_of_five_events(self):
        draw = random.Random(59)
        for k in range(60):
            calls = [("box", 1, 1, 0)] * 5 + [(draw.choice(("press", "report")), i, 0) for i in range(5)]
            for _ in range(draw.randint(3, 7)):
                x, y = draw.sample(range(5), 2)
                low = draw.randint(-2, 3)
                calls.append(("limit", x, y, low, low + draw.randint(0, 3)))
            calls += [("fits",)] + [("way", x, y) for x, y in ((0, 4), (4, 0), (1, 3), (3, 2))]
            calls += [("first", 0), ("first", 5, 0, 1, 2, 3, 4), ("ruled",), ("history",), ("late", 2)]
            reference = Reference()
            wanted = [reference.answer(call) for call in calls]
            with self.subTest(k=k, calls=calls):
                self.assertEqual(answered(calls), wanted)


if __name__ == "__main__":
    unittest.main()
