"""Calls 5 to 8: letters, what was sent, and who is due."""

import unittest

from tests.helper import HUGE, about, answer, correct, duties, issue, letter, run, show, template, text_of, withdraw

ROW_A = template("row A")


class Letters(unittest.TestCase):
    def test_a_letter_tells_old_and_new(self):
        answered = run(ROW_A, answer(7, 12, "A", "13.5", flag=2), issue(0, 7), correct(0, "14", 1), letter(), show(1))
        self.assertEqual(answered[4], [0, 1, 1])
        self.assertEqual(text_of(answered[5]), "corrections\n7 day 12 A: 13.5 H -> 14 L\n")

    def test_of_what_is_withdrawn(self):
        answered = run(ROW_A, answer(1, 0, "A", "1"), issue(), correct(0, "2", 3), withdraw(0), letter(), show(1))
        self.assertEqual(text_of(answered[6]), "corrections\n1 day 0 A: 1 -> withdrawn\n")

    def test_what_they_were_told_last_is_told(self):
        answered = run(ROW_A, answer(1, 0, "A", "1"), issue(), correct(0, "2"), correct(0, "3"), letter(), show(1),
                       correct(0, "4", 3), letter(), show(2), correct(0, "5"), issue(), correct(0, "6"), letter(),
                       show(4))
        self.assertEqual(text_of(answered[6]), "corrections\n1 day 0 A: 1 -> 3\n")
        self.assertEqual(text_of(answered[9]), "corrections\n1 day 0 A: 3 -> 4 !\n")
        self.assertEqual(text_of(answered[14]), "corrections\n1 day 0 A: 5 -> 6\n")

    def test_answers_rise_whatever_the_order_of_reports_and_corrections(self):
        answered = run(template("row B"), ROW_A, answer(10 ** 9, 100000, "A", "1"), answer(2, 5, "B", "2"),
                       answer(2, 6, "A", "3"), issue(0, 2), issue(1, 2), issue(1, 10 ** 9, 100000),
                       withdraw(2), correct(1, "x"), correct(0, "y"), letter(), show(3), about(3))
        self.assertEqual(answered[11], [0, 3, 3])
        self.assertEqual(text_of(answered[12]), "corrections\n1000000000 day 100000 A: 1 -> y\n"
                                                "2 day 5 B: 2 -> x\n2 day 6 A: 3 -> withdrawn\n")
        self.assertEqual(answered[13], [0, 1, 0, 0, 1, 3, 0, 1, 1, 1, 2, 1])

    def test_a_letter_has_only_what_its_reader_is_due_for(self):
        answered = run(ROW_A, template("row B"), answer(1, 0, "A", "1"), answer(1, 0, "B", "2"), issue(0, reader=3),
                       issue(1, reader=4), correct(0, "8"), correct(1, "9"), letter(4), show(2), letter(3), show(3))
        self.assertEqual(text_of(answered[9]), "corrections\n1 day 0 B: 2 -> 9\n")
        self.assertEqual(text_of(answered[11]), "corrections\n1 day 0 A: 1 -> 8\n")

    def test_a_letter_is_not_cut_or_wrapped(self):
        calls = [template("width 20", "row A1234567"), answer(10 ** 9, 100000, "A1234567", "v" * 12, flag=3)]
        answered = run(*calls, issue(0, 10 ** 9, 100000), correct(0, "w" * 12, 2), letter(), show(1))
        self.assertEqual(text_of(answered[5]), "corrections\n1000000000 day 100000 A1234567: "
                         + "v" * 12 + " ! -> " + "w" * 12 + " H\n")

    def test_nothing_is_due(self):
        self.assertEqual(run(letter()), [[-8]])
        answered = run(ROW_A, answer(1, 0, "A", "1"), issue(), letter(), correct(0, "2"), letter(1), letter(0),
                       letter(0), about(2))
        self.assertEqual(answered[3:], [[-8], [0, 1], [-8], [0, 1, 1], [-8], [-1]])

    def test_readers(self):
        for reader in (-HUGE, -1, 20, HUGE):
            self.assertEqual(run(letter(reader)), [[-1]])
        for reader in (0, 19):
            answered = run(ROW_A, answer(1, 0, "A", "1"), issue(reader=reader), withdraw(0), letter(reader))
            self.assertEqual(answered[4], [0, 1, 1])


class Showing(unittest.TestCase):
    def test_no_such_one(self):
        for number in (-HUGE, -1, 1, HUGE):
            self.assertEqual(run(template("blank"), issue(), show(number), about(number))[2:], [[-1], [-1]])
        self.assertEqual(run(show(0), about(0)), [[-1], [-1]])

    def test_a_row_of_bytes(self):
        self.assertEqual(run(template("text a"), issue(), show(0))[2], [0, 4, 97, 10, 12, 10])


class About(unittest.TestCase):
    def test_a_report(self):
        answered = run(template("lines 5", "row A", "row B", "table A B C", "blank"), answer(9, 1, "B", "1"),
                       answer(9, 2, "A", "1"), correct(1, "2"), issue(0, 9, 2, 19), about(0))
        self.assertEqual(answered[4], [0, 0, 2])
        self.assertEqual(answered[5], [0, 0, 19, 9, 2, 2, 0, 0, 1, 1])

    def test_a_report_that_tells_nothing(self):
        self.assertEqual(run(template("blank"), issue(0, 5, 0, 1), about(0))[2], [0, 0, 1, 5, 1, 0])

    def test_a_letter(self):
        answered = run(ROW_A, answer(9, 1, "A", "1"), issue(0, 9, 2, 19), withdraw(0), letter(19), about(1))
        self.assertEqual(answered[5], [0, 1, 19, 0, 1, 1, 0, 1])

    def test_versions_stay_as_they_were_then(self):
        answered = run(ROW_A, answer(1, 1, "A", "1"), issue(), correct(0, "2"), about(0), issue(), about(0), about(1))
        self.assertEqual([answered[place] for place in (4, 6, 7)],
                         [[0, 0, 0, 1, 1, 1, 0, 0], [0, 0, 0, 1, 1, 1, 0, 0], [0, 0, 0, 1, 1, 1, 0, 1]])


class Duties(unittest.TestCase):
    def test_nothing_at_the_beginning(self):
        self.assertEqual(run(duties()), [[0, 0]])

    def test_by_readers_then_answers(self):
        calls = [template("row A", "row B"), answer(1, 0, "A", "1"), answer(2, 0, "A", "1"), answer(1, 0, "B", "1")]
        calls += [issue(0, 2, 9, 19), issue(0, 1, 9, 4), issue(0, 1, 9, 19), issue(0, 2, 9, 0)]
        answered = run(*calls, duties(), correct(2, "2"), correct(1, "2"), withdraw(0), duties(), letter(19), duties())
        self.assertEqual(answered[8], [0, 0])
        self.assertEqual(answered[12], [0, 6, 0, 1, 4, 0, 4, 2, 19, 0, 19, 1, 19, 2])
        self.assertEqual(answered[14], [0, 3, 0, 1, 4, 0, 4, 2])

    def test_a_new_report_takes_the_duty_away(self):
        answered = run(ROW_A, answer(1, 0, "A", "1"), issue(), correct(0, "2"), duties(), issue(reader=1), duties(),
                       issue(), duties())
        self.assertEqual([answered[place] for place in (4, 6, 8)], [[0, 1, 0, 0], [0, 1, 0, 0], [0, 0]])

    def test_a_new_report_that_does_not_show_it_leaves_the_duty(self):
        calls = [ROW_A, answer(1, 0, "A", "1"), issue(), withdraw(0), answer(1, 1, "A", "3"), issue(), duties()]
        self.assertEqual(run(*calls)[-1], [0, 1, 0, 0])

    def test_several_new_versions_make_one_duty(self):
        answered = run(ROW_A, answer(1, 0, "A", "1"), issue(), correct(0, "2"), correct(0, "1"), withdraw(0), duties())
        self.assertEqual(answered[-1], [0, 1, 0, 0])

    def test_a_correction_to_the_same_value_is_a_newer_version(self):
        self.assertEqual(run(ROW_A, answer(1, 0, "A", "1"), issue(), correct(0, "1"), duties())[-1], [0, 1, 0, 0])

    def test_refused_corrections_make_no_duty(self):
        answered = run(ROW_A, answer(1, 0, "A", "1"), issue(), correct(0, ""), correct(0, "2", 4), duties())
        self.assertEqual(answered[-1], [0, 0])


if __name__ == "__main__":
    unittest.main()
