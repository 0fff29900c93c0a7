"""The one function that is called from outside, and how lists are laid."""

import random
import unittest

from reportstold.laboratory import answers
from tests.helper import (HUGE, about, answer, correct, counts, diff, duties, issue, letter, newest, preview, printed,
                          row, run, show, template, template_text, text_of, told, versions, withdraw, wrap)

SOME_CALLS = [template("head {page}", "row A", "if A", "table A B", "end"), template("row"),
              answer(1, 3, "A", "1", flag=2), answer(0, 3, "A", "1"), issue(), correct(0, "2"), duties(),
              letter(), show(0), show(1), about(0), about(1), withdraw(0), duties(), letter(), show(2)]
ASKING = [show(0), about(0), duties(), told(0, 0), versions(0), preview(0, 1, 9), printed(0), wrap(5, "a bc defghij"),
          diff(0, 1), newest(1, 9, "A"), counts()]
REFUSED = [template("row"), answer(1, 3, "A", ""), answer(1, 3, "A", "1", flag=4), correct(0, "a b"), correct(60, "1"),
           withdraw(-1), issue(8), issue(reader=20), letter(-1), show(40), about(-1), told(20, 0), told(0, HUGE),
           versions(60), preview(8), preview(0, 0), preview(0, 1, -1), printed(-HUGE), wrap(0, "a"), wrap(101, [10]),
           wrap(9, [10]), diff(0, 40), diff(-1, 0), newest(0, 9, "A"), newest(1, 9, "9"), newest(1, -1, "A")]


def laid(calls):
    return [number for call in calls for number in call]


def long_template(hole):
    """One that gives as many lines as its 2500 bytes and 40 parts have room for, or nearly."""
    text = "width 20\nlines 5\nhead \nfoot \n"
    text += ("text " + " ".join([hole] * (200 // (len(hole) + 1))) + "\n") * 11
    return template_text(text + "table A\n" * min(29, (2500 - len(text)) // 8))


class Lists(unittest.TestCase):
    def test_what_is_answered_stands_behind_its_count(self):
        self.assertEqual(answers([8]), [2, 0, 0])
        self.assertEqual(answers([3, 0, 8, 6, -1]), [1, -1, 2, 0, 0, 1, -1])
        self.assertEqual(answers([0, 3, 114, 111, 119, 8]), [3, 1, 1, 1, 2, 0, 0])

    def test_calls_written_number_by_number(self):
        calls = [0, 5, 114, 111, 119, 32, 65, 1, 1, 0, 0, 1, 65, 1, 117, 1, 49, 4, 0, 1, 5, 2, 7, 0, 2, 0, 1, 1, 50,
                 8, 3, 0, 5, 2, 7, 1]
        self.assertEqual(answers(calls), [2, 0, 0, 2, 0, 0, 3, 0, 0, 1, 8, 0, 0, 2, 1, 1, 1, 0, 0, 2, 0, 1,
                                          4, 0, 1, 2, 0, 2, 0, 2, 3, 0, 1, 1, 8, 0, 1, 2, 0, 1, 1, 0, 2])

    def test_it_gives_a_list_of_plain_whole_numbers(self):
        answered = answers(laid(SOME_CALLS + ASKING + REFUSED))
        self.assertIs(type(answered), list)
        self.assertEqual({type(number) for number in answered}, {int})

    def test_400_calls(self):
        self.assertEqual(answers([8] * 400), [2, 0, 0] * 400)

    def test_asking_and_refusals_change_nothing(self):
        alone = run(*SOME_CALLS)
        for asked in ASKING + REFUSED:
            answered = run(*[call for each in SOME_CALLS for call in (asked, asked, each)], asked)
            self.assertEqual(answered[2::3], alone, asked)
            self.assertEqual(answered[0:-1:3], answered[1:-1:3], asked)

    def test_each_refusal_is_one(self):
        for asked in REFUSED:
            for answered in run(*[call for each in SOME_CALLS for call in (each, asked)])[1::2]:
                self.assertTrue(answered[0] == 1 and asked[0] == 0 or len(answered) == 1 and answered[0] < 0, asked)

    def test_calls_of_all_numbers_in_any_order(self):
        calls = SOME_CALLS + ASKING
        chance = random.Random(17)
        self.assertEqual({call[0] for call in calls}, set(range(17)))
        for step in range(40):
            chance.shuffle(calls)
            answered = run(*calls)
            self.assertEqual([each[0] <= 1 and len(each) > 0 for each in answered], [True] * len(calls))


class LongLists(unittest.TestCase):
    def test_400_calls_with_20_of_issue_preview_and_diff_over_long_reports(self):
        calls = [long_template("{person}"), long_template("{value A}")]
        for person, sign in ((10 ** 9, "v"), (7, "w")):
            calls += [answer(person, day, "A", sign * 11 + str(day), flag=3) for day in range(6)]
        calls += [issue(0, 10 ** 9, 100000), issue(1, 10 ** 9, 99999), issue(1, 7, 99999), preview(0, 10 ** 9, 100000)]
        calls += [diff(place, other) for place in range(3) for other in range(3)] + [diff(0, 1)] * 7
        calls += [show(place) for place in range(3)] * 13 + [show(0)]
        calls += [[9, 0, 0], [10, 0], [12, 0], [12, 1], wrap(1, "x" * 300), [15, 7, 9] + row("A"), [16]] * 50
        calls = calls[:400]
        answered = run(*calls)
        self.assertEqual(len(calls), 400)
        self.assertEqual(sum(call[0] in (4, 11, 14) for call in calls), 20)
        self.assertTrue(all(each[0] == 0 for each in answered))
        lines = [text_of(each).count("\n") for each in answered[34:37]]
        self.assertGreater(min(lines), 700)
        for call, each in zip(calls, answered):
            if call[0] == 14:
                numbers = each[2:]
                self.assertEqual(len(numbers) - numbers.count(2), lines[call[1]])
                self.assertEqual(len(numbers) - numbers.count(1), lines[call[2]])
                self.assertEqual(call[1] == call[2], set(numbers) == {0})
        self.assertEqual(answered[17], answered[34])


class NothingIsKept(unittest.TestCase):
    def test_what_is_handed_in_stays_as_it_was(self):
        calls = laid(SOME_CALLS + ASKING + REFUSED)
        before = list(calls)
        answered = answers(calls)
        self.assertEqual(calls, before)
        answered.clear()
        self.assertEqual(calls, before)

    def test_the_same_list_twice_is_answered_alike(self):
        calls = laid(SOME_CALLS + ASKING + REFUSED)
        first = answers(calls)
        answers([8])
        copy = list(first)
        first.clear()
        self.assertEqual(answers(calls), copy)


if __name__ == "__main__":
    unittest.main()
