"""What is handed in and given back, and that nothing is kept."""

import unittest

from firstpress.layout import KINDS, read_call
from firstpress.presses import NotAnsweredYet, answers
from tests.lines import NAMES, answered, apart, flat

LINE = flat([
    ("box", 1, 2, 3), ("box", 2, 2, 0), ("wire", 0, 1, 4, 9), ("event", 0, 10), ("press", 1, 3), ("event", 0, 20),
    ("sent", 0), ("heard", 0, 1), ("limit", 1, 2, 0, 7), ("limit", 1, 2, 0, 6), ("drop", 2), ("fits",),
    ("most", 0, 1), ("sure", 0, 1), ("way", 0, 2), ("way", 2, 1), ("limit", 1, 0, 0, 1), ("fits",), ("most", 0, 1),
])
ANSWERS = [
    1, 0, 1, 1, 1, 0, 1, 0, 1, 1, 1, 2, 1, 0, 1, 0, 1, 1, 1, 2, 1, 2, 1, 1,
    2, 1, 9, 1, 2, 4, 1, 2, 2, 4, 3, 1, 1, 5, 1, 2, 4, 0, 2, 7, 3, 1, -8,
]


class Interface(unittest.TestCase):
    def test_how_answers_are_laid_out(self):
        self.assertEqual(answers(LINE), ANSWERS)
        self.assertEqual(answers([8]), [1, 1])
        self.assertEqual(answers([0, 0, 0, 0]), [1, -1])

    def test_a_list_of_plain_whole_numbers_is_given_back(self):
        found = answers(LINE)
        self.assertIs(type(found), list)
        self.assertTrue(all(type(number) is int for number in found))

    def test_what_is_handed_in_stays(self):
        calls = list(LINE)
        answers(calls)
        self.assertEqual(calls, LINE)

    def test_a_list_that_nothing_may_change(self):
        class Fixed(list):
            def refuse(self, *given, **named):
                raise AssertionError("changed")

            append = extend = insert = pop = remove = clear = sort = reverse = refuse
            __setitem__ = __delitem__ = __iadd__ = __imul__ = refuse

        self.assertEqual(answers(Fixed(LINE)), ANSWERS)

    def test_nothing_is_kept(self):
        first = answers(LINE)
        answers(flat([("box", 9, 9, 9)] * 8 + [("event", 0, 0)] * 16 + [("limit", 0, 1, 5, 5)]))
        second = answers(LINE)
        self.assertEqual(first, second)
        self.assertIsNot(first, second)
        self.assertEqual(answers([2, 0, 0]), [1, -4])

    def test_what_is_given_back_is_the_caller_s(self):
        answers(LINE).clear()
        self.assertEqual(answers(LINE), ANSWERS)

    def test_two_hundred_calls(self):
        start = [("box", 1, 2, 1), ("box", 1, 2, 1)] + [("event", k % 2, k) for k in range(16)]
        start += [("limit", k % 15, k % 15 + 1, -50, 50) for k in range(24)]
        calls = start + [("way", k % 16, (k * 7 + 3) % 16) for k in range(118)] + [("fits",)] * 40
        self.assertEqual(len(calls), 200)
        found = answered(calls)
        self.assertTrue(all(answer[0] == 1 for answer in found[42:]))

    def test_the_layout_of_all_calls(self):
        lengths = [3, 4, 2, 2, 1, 2, 4, 1, 0, 2, 2, 2, 0, 0, 0, 1, 0, 2, 3, 0, 2, 1, 0, 0]
        self.assertEqual([len(kinds) for kinds in KINDS], lengths)
        for number, name in enumerate(NAMES):
            given = list(range(50, 50 + len(KINDS[number])))
            for row in ([], [5, 6, 7]) if name in ("first", "check", "adds") else (None,):
                numbers = [number] + given + ([] if row is None else [len(row)] + row)
                call = read_call([8] + numbers + [8], 1)
                self.assertEqual((call.number, call.given, call.row), (number, given, row or []))
                self.assertEqual(call.end, 1 + len(numbers))

    def test_calls_of_a_later_stage_are_not_answered_wrongly(self):
        start = flat(apart(1) + [("sent", 0)])
        for number in range(12, 24):
            with self.subTest(number=number), self.assertRaises(NotAnsweredYet):
                answers(start + [number, 0, 0, 0, 8])


if __name__ == "__main__":
    unittest.main()
