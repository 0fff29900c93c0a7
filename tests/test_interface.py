"""The one function that is called from outside, and how lists are laid."""

import unittest

from reportstold.laboratory import answers
from tests.helper import about, answer, correct, duties, issue, letter, row, show, taken_apart, template, withdraw

SOME_CALLS = [template("head {page}", "row A", "if A", "table A B", "end"), template("row"),
              answer(1, 3, "A", "1", flag=2), answer(0, 3, "A", "1"), issue(), correct(0, "2"), duties(),
              letter(), show(0), show(1), about(0), about(1), withdraw(0), duties(), letter(), show(2)]


def laid(calls):
    return [number for call in calls for number in call]


class Lists(unittest.TestCase):
    def test_what_is_answered_stands_behind_its_count(self):
        self.assertEqual(answers([8]), [2, 0, 0])
        self.assertEqual(answers([3, 0, 8, 6, -1]), [1, -1, 2, 0, 0, 1, -1])
        self.assertEqual(answers([0, 3, 114, 111, 119, 8]), [3, 1, 1, 1, 2, 0, 0])

    def test_calls_written_number_by_number(self):
        calls = [0, 5, 114, 111, 119, 32, 65, 1, 1, 0, 0, 1, 65, 1, 117, 1, 49, 4, 0, 1, 5, 2, 7, 0, 2, 0, 1, 1, 50,
                 8, 3, 0, 5, 2, 7, 1]
        self.assertEqual(answers(calls), [2, 0, 0, 2, 0, 0, 3, 0, 0, 1, 8, 0, 0, 2, 1, 1, 1, 0, 0, 2, 0, 1,
                                          4, 0, 1, 2, 0, 2, 0, 2, 3, 0, 1, 1, 8, 0, 1, 2, 0, 1, 1, 0, 2])

    def test_it_gives_a_list_of_plain_whole_numbers(self):
        answered = answers(laid(SOME_CALLS))
        self.assertIs(type(answered), list)
        self.assertEqual({type(number) for number in answered}, {int})

    def test_400_calls(self):
        self.assertEqual(answers([8] * 400), [2, 0, 0] * 400)

    def test_calls_of_later_numbers_do_not_disturb_the_others(self):
        later = [[9, 0, 0], [10, 0], [11, 0, 1, 5], [12, 0], [13, 5] + row("a b"), [14, 0, 0],
                 [15, 1, 5] + row("A"), [16]]
        mixed = [call for pair in zip(SOME_CALLS, later + later) for call in pair]
        self.assertEqual(taken_apart(answers(laid(mixed)))[::2], taken_apart(answers(laid(SOME_CALLS))))


class NothingIsKept(unittest.TestCase):
    def test_what_is_handed_in_stays_as_it_was(self):
        calls = laid(SOME_CALLS)
        before = list(calls)
        answered = answers(calls)
        self.assertEqual(calls, before)
        answered.clear()
        self.assertEqual(calls, before)

    def test_the_same_list_twice_is_answered_alike(self):
        calls = laid(SOME_CALLS)
        first = answers(calls)
        answers([8])
        copy = list(first)
        first.clear()
        self.assertEqual(answers(calls), copy)


if __name__ == "__main__":
    unittest.main()
