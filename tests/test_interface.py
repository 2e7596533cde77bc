"""What is handed in and given back, and that nothing is kept."""

import unittest

from firstpress.layout import KINDS, read_call
from firstpress.presses import answers
from tests.lines import NAMES, adds, answered, check, first, flat, split

LINE = flat([
    ("box", 1, 2, 3), ("box", 2, 2, 0), ("wire", 0, 1, 4, 9), ("event", 0, 10), ("press", 1, 3), ("event", 0, 20),
    ("sent", 0), ("heard", 0, 1), ("limit", 1, 2, 0, 7), ("limit", 1, 2, 0, 6), ("drop", 2), ("fits",),
    ("most", 0, 1), ("sure", 0, 1), ("way", 0, 2), ("way", 2, 1), ("limit", 1, 0, 0, 1), ("fits",), ("most", 0, 1),
])
ANSWERS = [
    1, 0, 1, 1, 1, 0, 1, 0, 1, 1, 1, 2, 1, 0, 1, 0, 1, 1, 1, 2, 1, 2, 1, 1,
    2, 1, 9, 1, 2, 4, 1, 2, 2, 4, 3, 1, 1, 5, 1, 2, 4, 0, 2, 7, 3, 1, -8,
]

# Something of each kind is there, and one right call of each name behind it.
START = [
    ("box", 2, 3, 1), ("box", 1, 4, 2), ("wire", 0, 1, 10, 40), ("press", 0, 100), ("press", 1, 50), ("sent", 0),
    ("heard", 0, 1),
]
ALL = {
    "box": (1, 2, 3), "wire": (1, 0, 5, -1), "fits": (), "most": (0, 1), "sure": (0, 1), "way": (0, 1),
    "first": first(0, 1)[1:], "bounds": (), "history": (), "late": (0,), "check": check(0, 20)[1:], "needed": (0, 1),
    "would": (0, 1, 50), "adds": adds(0, 1)[1:], "ruled": (), "told": (), "sent": (1,), "heard": (0, 1),
    "limit": (0, 1, 0, 30), "drop": (0,), "event": (0, 101), "press": (0, 102), "report": (1, 60), "wakes": (0,),
}


class Fixed(list):
    def refuse(self, *given, **named):
        raise AssertionError("changed")

    append = extend = insert = pop = remove = clear = sort = reverse = refuse
    __setitem__ = __delitem__ = __iadd__ = __imul__ = refuse


class Interface(unittest.TestCase):
    def test_one_right_call_of_each_name(self):
        self.assertEqual(sorted(ALL), sorted(NAMES))

    def test_how_answers_are_laid_out(self):
        self.assertEqual(answers(LINE), ANSWERS)
        self.assertEqual(answers([8]), [1, 1])
        self.assertEqual(answers([0, 0, 0, 0]), [1, -1])
        found = answers([13, 14, 16, 0, 19, 0, 12, 0, 22, 23, 12, 2, 0, 1, 8])
        self.assertEqual(found, [1, 0, 1, 0, 1, 1, 1, 0, 1, -9, 1, -9, 2, 0, 0, 1, -2, 1, 1])
        # A box with a press and an event 2 to 3 behind it: first, bounds, late of 0, check, adds, told.
        found = answers([0, 2, 3, 0, 3, 0, 5, 2, 0, 6, 12, 0, 13, 15, 0, 16, 2, 0, 1, 19, 1, 1, 23])
        wanted = [1, 0, 1, 0, 1, 1, 2, 1, 0, 7, 2, 0, 1, 3, 1, 0, -2, 4, 1, 2, 0, 3, 2, 0, 1, 4, 1, 1, 0, -2]
        self.assertEqual(found, wanted + [12, 1, 2, 3, 0, 0, 2, 0, 5, 1, 0, 6, 0])

    def test_a_list_of_plain_whole_numbers_is_given_back(self):
        found = answers(LINE)
        self.assertIs(type(found), list)
        self.assertTrue(all(type(number) is int for number in found))

    def test_what_is_handed_in_stays(self):
        calls = list(LINE)
        answers(calls)
        self.assertEqual(calls, LINE)

    def test_a_list_that_nothing_may_change(self):
        self.assertEqual(answers(Fixed(LINE)), ANSWERS)
        calls = flat(START + [(name, *given) for name, given in ALL.items()])
        self.assertEqual(answers(Fixed(calls)), answers(calls))

    def test_nothing_is_kept(self):
        once = answers(LINE)
        answers(flat([("box", 9, 9, 9)] * 8 + [("event", 0, 0)] * 16 + [("limit", 0, 1, 5, 5)]))
        again = answers(LINE)
        self.assertEqual(once, again)
        self.assertIsNot(once, again)
        self.assertEqual(answers([2, 0, 0]), [1, -4])

    def test_what_is_given_back_is_the_caller_s(self):
        answers(LINE).clear()
        self.assertEqual(answers(LINE), ANSWERS)

    def test_two_hundred_calls(self):
        start = [("box", 1, 2, 1), ("box", 1, 2, 1)] + [("event", k % 2, k) for k in range(16)]
        start += [("limit", k % 15, k % 15 + 1, -50, 50) for k in range(24)]
        calls = start + [("way", k % 16, (k * 7 + 3) % 16) for k in range(118)] + [("fits",)] * 40
        self.assertEqual(len(calls), 200)
        found = answered(calls)
        self.assertTrue(all(answer[0] == 1 for answer in found[42:]))

    def test_the_layout_of_all_calls(self):
        lengths = [3, 4, 2, 2, 1, 2, 4, 1, 0, 2, 2, 2, 0, 0, 0, 1, 0, 2, 3, 0, 2, 1, 0, 0]
        self.assertEqual([len(kinds) for kinds in KINDS], lengths)
        for number, name in enumerate(NAMES):
            given = list(range(50, 50 + len(KINDS[number])))
            for row in ([], [5, 6, 7]) if name in ("first", "check", "adds") else (None,):
                numbers = [number] + given + ([] if row is None else [len(row)] + row)
                call = read_call([8] + numbers + [8], 1)
                self.assertEqual((call.number, call.given, call.row), (number, given, row or []))
                self.assertEqual(call.end, 1 + len(numbers))

    def test_sixteen_events_and_the_calls_that_take_longest(self):
        start = [("box", 1, 2, 1), ("box", 1, 2, 1), ("wire", 0, 1, 0, 99)]
        start += [("press", k % 2, 5 * k) for k in range(15)] + [("sent", 0)]
        start += [("limit", 0, k % 14 + 1, 1, 500) for k in range(23)]
        asks = [("needed", 0, 14), ("would", 0, 1, 90), ("ruled",), first(), ("fits",)] * 8
        found = answered(start + asks + [("adds", 60) + (0, 1) * 30] * (200 - len(start) - len(asks)))
        self.assertEqual(len(found), 200)
        self.assertEqual(found[len(start):len(start) + 5], [[0], [1, 0], [0, 1, 1], [1, 0], [1]])
        self.assertEqual(found[-1][:3], [1, 0, 0])

    def test_calls_stand_one_behind_another(self):
        # Behind each call another one, whose answer shows that it was read from the right place.
        for name, given in ALL.items():
            numbers = flat(START + [(name, *given), ("told",)])
            found = split(answers(numbers))
            self.assertEqual(len(found), len(START) + 2)
            self.assertEqual(found[-1][1:9], [2, 3, 1, 0, 1, 4, 2, 1], name)

    def test_all_calls_twice(self):
        calls = flat(START + [(name, *given) for name, given in ALL.items()])
        kept = list(calls)
        found = answers(calls)
        self.assertEqual(calls, kept)
        self.assertEqual(answers(calls), found)
        self.assertEqual(calls, kept)
        self.assertTrue(all(type(number) is int for number in found))

    def test_no_answer_but_a_refusal_begins_below_0(self):
        found = answered(START + [(name, *given) for name, given in ALL.items()])
        for answer in found:
            self.assertTrue(answer[0] >= 0 or len(answer) == 1)
        self.assertTrue(all(answer[0] >= 0 for answer in found))


if __name__ == "__main__":
    unittest.main()
