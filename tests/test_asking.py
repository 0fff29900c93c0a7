"""The calls told, versions, newest and counts: what is asked of answers and readers, with nothing changed."""

import unittest

from tests.helper import (HUGE, answer, correct, counts, duties, issue, letter, newest, row, run, show, template, told,
                          versions, withdraw)

FAR_NUMBERS = (-1, -2, HUGE, -HUGE)


class Told(unittest.TestCase):
    def setUp(self):
        self.begin = [template("row A"), template("row A", "row B"), answer(1, 3, "A", "1"), answer(1, 3, "B", "2")]

    def last(self, *calls):
        return run(*self.begin, *calls)[-1]

    def test_nothing_was_told(self):
        self.assertEqual(self.last(told(0, 0)), [0, 0])
        self.assertEqual(self.last(correct(0, "5"), told(0, 0)), [0, 0])

    def test_another_reader_or_another_answer_was_told(self):
        self.assertEqual(self.last(issue(reader=1), told(0, 0)), [0, 0])
        self.assertEqual(self.last(issue(reader=0), told(0, 1)), [0, 0])

    def test_the_newest_by_a_report(self):
        self.assertEqual(self.last(issue(), told(0, 0)), [0, 1, 0, 0])
        self.assertEqual(self.last(correct(0, "5"), issue(reader=19), told(19, 0)), [0, 1, 1, 0])

    def test_a_newer_one_has_come(self):
        self.assertEqual(self.last(issue(), correct(0, "5"), told(0, 0)), [0, 1, 0, 1])
        self.assertEqual(self.last(issue(), correct(0, "5"), correct(0, "6"), told(0, 0)), [0, 1, 0, 1])
        self.assertEqual(self.last(issue(), withdraw(0), told(0, 0)), [0, 1, 0, 1])

    def test_a_newer_one_of_another_answer_has_come(self):
        self.assertEqual(self.last(issue(1), correct(1, "5"), told(0, 0)), [0, 1, 0, 0])
        self.assertEqual(self.last(issue(1), correct(1, "5"), told(0, 1)), [0, 1, 0, 1])

    def test_the_newest_by_a_letter(self):
        self.assertEqual(self.last(issue(), correct(0, "5"), letter(), told(0, 0)), [0, 1, 1, 0])
        self.assertEqual(self.last(issue(), correct(0, "5"), withdraw(0), letter(), told(0, 0)), [0, 1, 2, 0])

    def test_due_again_behind_a_letter(self):
        self.assertEqual(self.last(issue(), correct(0, "5"), letter(), withdraw(0), told(0, 0)), [0, 1, 1, 1])

    def test_the_greatest_of_several(self):
        sendings = [issue(), correct(0, "5"), issue(), correct(0, "6"), issue(reader=1)]
        self.assertEqual(self.last(*sendings, told(0, 0)), [0, 1, 1, 1])
        self.assertEqual(self.last(*sendings, told(1, 0)), [0, 1, 2, 0])

    def test_a_letter_to_one_reader_is_none_to_another(self):
        sendings = [issue(reader=0), issue(reader=1), correct(0, "5"), letter(0)]
        self.assertEqual(self.last(*sendings, told(0, 0)), [0, 1, 1, 0])
        self.assertEqual(self.last(*sendings, told(1, 0)), [0, 1, 0, 1])

    def test_a_report_without_the_answer_tells_nothing_of_it(self):
        self.assertEqual(self.last(withdraw(0), issue(), told(0, 0)), [0, 0])
        self.assertEqual(self.last(issue(day=2), told(0, 0)), [0, 0])

    def test_refusals(self):
        for number in (*FAR_NUMBERS, 2):
            self.assertEqual(self.last(issue(), told(0, number)), [-1])
        for reader in (*FAR_NUMBERS, 20):
            self.assertEqual(self.last(issue(), told(reader, 0)), [-1])
            self.assertEqual(self.last(issue(), told(reader, 2)), [-1])
        self.assertEqual(run(told(0, 0)), [[-1]])


class Versions(unittest.TestCase):
    def test_one_version(self):
        answered = run(answer(7, 3, "HB", "13.5", unit="g/dl", flag=1), versions(0))[-1]
        self.assertEqual(answered, [0, 7, 3] + row("HB") + row("g/dl") + [1, 0, 1] + row("13.5"))

    def test_number_by_number(self):
        self.assertEqual(run(answer(7, 3, "A", "1"), versions(0))[-1],
                         [0, 7, 3, 1, 65, 1, 117, 1, 0, 0, 1, 49])

    def test_6_versions_corrected_and_withdrawn(self):
        calls = [answer(10 ** 9, 10 ** 5, "A2345678", "x" * 12, unit="~" * 12, flag=3)]
        calls += [correct(0, "v" + str(flag), flag) for flag in (0, 1, 2, 3)] + [withdraw(0), versions(0)]
        wanted = [0, 10 ** 9, 10 ** 5] + row("A2345678") + row("~" * 12) + [6, 0, 3] + row("x" * 12)
        for flag in (0, 1, 2, 3):
            wanted += [1, flag] + row("v" + str(flag))
        self.assertEqual(run(*calls)[-1], wanted + [2, 0, 0])

    def test_a_withdrawn_one_has_no_flag_and_no_value(self):
        answered = run(answer(1, 0, "A", "1", flag=2), withdraw(0), versions(0))[-1]
        self.assertEqual(answered, [0, 1, 0] + row("A") + row("u") + [2, 0, 2] + row("1") + [2, 0, 0])

    def test_what_was_refused_is_no_version(self):
        refused = [correct(0, "", 1), correct(0, "2", 4), correct(1, "2"), withdraw(1)]
        answered = run(answer(1, 0, "A", "1"), versions(0), *refused, versions(0))
        self.assertEqual(answered[-1], answered[1])
        self.assertEqual(answered[-1][7], 1)
        behind = run(answer(1, 0, "A", "1"), withdraw(0), correct(0, "2"), withdraw(0), versions(0))
        self.assertEqual(behind[-1][7], 2)

    def test_each_answer_has_its_own(self):
        calls = [answer(1, 5, "A", "1"), answer(2, 6, "B", "2"), correct(1, "3", 2)]
        answered = run(*calls, versions(0), versions(1))[-2:]
        self.assertEqual(answered[0], [0, 1, 5] + row("A") + row("u") + [1, 0, 0] + row("1"))
        self.assertEqual(answered[1], [0, 2, 6] + row("B") + row("u") + [2, 0, 0] + row("2") + [1, 2] + row("3"))

    def test_refusals(self):
        for number in (*FAR_NUMBERS, 1):
            self.assertEqual(run(answer(1, 0, "A", "1"), versions(number))[-1], [-1])
        self.assertEqual(run(versions(0)), [[-1]])


class Newest(unittest.TestCase):
    def last(self, *calls):
        return run(*calls)[-1]

    def test_the_latest_day(self):
        calls = [answer(1, 9, "A", "1"), answer(1, 4, "A", "2")]
        self.assertEqual(self.last(*calls, newest(1, 9, "A")), [0, 1, 0, 0])
        self.assertEqual(self.last(*calls, newest(1, 100000, "A")), [0, 1, 0, 0])

    def test_a_day_of_at_most_this_one(self):
        calls = [answer(1, 9, "A", "1"), answer(1, 4, "A", "2")]
        self.assertEqual(self.last(*calls, newest(1, 8, "A")), [0, 1, 1, 0])
        self.assertEqual(self.last(*calls, newest(1, 4, "A")), [0, 1, 1, 0])

    def test_a_day_ahead_of_all_answers(self):
        calls = [answer(1, 9, "A", "1"), answer(1, 4, "A", "2")]
        self.assertEqual(self.last(*calls, newest(1, 3, "A")), [0, 0])
        self.assertEqual(self.last(*calls, newest(1, 0, "A")), [0, 0])

    def test_of_two_answers_of_one_day_the_last(self):
        calls = [answer(1, 4, "A", "1"), answer(1, 4, "A", "2"), answer(1, 4, "B", "3")]
        self.assertEqual(self.last(*calls, newest(1, 4, "A")), [0, 1, 1, 0])

    def test_a_withdrawn_one_is_not_in_the_file(self):
        calls = [answer(1, 4, "A", "1"), answer(1, 4, "A", "2"), withdraw(1)]
        self.assertEqual(self.last(*calls, newest(1, 4, "A")), [0, 1, 0, 0])
        self.assertEqual(self.last(*calls, withdraw(0), newest(1, 4, "A")), [0, 0])

    def test_its_newest_versions_number(self):
        calls = [answer(1, 4, "A", "1"), correct(0, "2"), correct(0, "3")]
        self.assertEqual(self.last(*calls, newest(1, 4, "A")), [0, 1, 0, 2])

    def test_another_person_or_another_test(self):
        calls = [answer(1, 4, "A", "1")]
        for person, test in ((2, "A"), (1, "a"), (1, "B"), (1, "AA"), (10 ** 9, "A")):
            self.assertEqual(self.last(*calls, newest(person, 9, test)), [0, 0])

    def test_out_of_the_range(self):
        calls = [answer(1, 4, "A", "1")]
        for person in (*FAR_NUMBERS, 0, 10 ** 9 + 1):
            self.assertEqual(self.last(*calls, newest(person, 9, "A")), [-1])
            self.assertEqual(self.last(*calls, newest(person, 9, "")), [-1])
        for day in (*FAR_NUMBERS, 100001):
            self.assertEqual(self.last(*calls, newest(1, day, "A")), [-1])
            self.assertEqual(self.last(*calls, newest(1, day, "1")), [-1])

    def test_no_name(self):
        for test in ("", "1", "1A", "A" * 9, "A" * 40, "A b", "A_", "\xc4", "A\n", [0], "{A}"):
            self.assertEqual(self.last(answer(1, 4, "A", "1"), newest(1, 9, test)), [-2])
        self.assertEqual(self.last(newest(1, 9, "A" * 8)), [0, 0])


class Counts(unittest.TestCase):
    def test_at_the_beginning(self):
        self.assertEqual(run(counts()), [[0, 0, 0, 0, 0]])

    def test_each_thing_is_counted(self):
        answered = run(template(), counts(), answer(1, 3, "A", "1"), counts(), template("row A"), issue(1), counts(),
                       correct(0, "2"), counts(), letter(), counts())
        self.assertEqual([each for each in answered if len(each) == 5],
                         [[0, 1, 0, 0, 0], [0, 1, 1, 0, 0], [0, 2, 1, 1, 0], [0, 2, 1, 1, 1], [0, 2, 1, 2, 0]])

    def test_what_was_refused_is_not_counted(self):
        self.assertEqual(run(template("row"), answer(0, 3, "A", "1"), issue(), letter(), counts())[-1], [0] * 5)

    def test_at_the_full_8_60_and_40(self):
        calls = [template("row A", "row B")] * 8
        calls += [answer(1, 3, "A", "1"), answer(1, 3, "B", "1")] + [answer(2, 3, "A", "1")] * 58
        calls += [issue(reader=reader) for reader in range(20)]
        calls += [correct(0, "2"), correct(1, "2")]
        self.assertEqual(run(*calls, counts())[-1], [0, 8, 60, 20, 40])
        letters = [letter(reader) for reader in range(20)]
        self.assertEqual(run(*calls, *letters, counts())[-1], [0, 8, 60, 40, 0])
        more = [template("row A"), answer(1, 3, "A", "1"), withdraw(1), letter(0)]
        answered = run(*calls, *letters, *more, counts(), duties())
        self.assertEqual(answered[-6:-2], [[-6], [-6], [0, 2], [-6]])
        self.assertEqual(answered[-2], [0, 8, 60, 40, 20])
        self.assertEqual(answered[-1][1], 20)

    def test_duties_are_counted_by_readers_and_answers(self):
        calls = [template("row A", "row B"), answer(1, 3, "A", "1"), answer(1, 3, "B", "1"), issue(reader=4), issue(reader=9)]
        self.assertEqual(run(*calls, correct(0, "2"), counts())[-1], [0, 1, 2, 2, 2])
        self.assertEqual(run(*calls, correct(0, "2"), withdraw(1), counts())[-1], [0, 1, 2, 2, 4])
        self.assertEqual(run(*calls, correct(0, "2"), withdraw(1), letter(9), counts())[-1], [0, 1, 2, 3, 2])

    def test_a_withdrawn_answer_is_still_counted(self):
        self.assertEqual(run(answer(1, 3, "A", "1"), withdraw(0), show(0), counts())[-1], [0, 0, 1, 0, 0])


if __name__ == "__main__":
    unittest.main()
