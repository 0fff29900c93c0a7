"""Calls 1 to 3: answers, corrections and withdrawals, with their refusals."""

import unittest

from tests.helper import HUGE, answer, correct, report, run, withdraw

WRONG_WORDS = ("", "x" * 13, "a b", " ", "a{", "}a", "\x00", "\x1f", "\x7f", "\xff", "a\n", "x" * 40)
WRONG_NAMES = ("", "1A", "A23456789", "A-", "A B", " A", "A ", "A_", "\xc4", "[", "`", "@", "{", "A:", "A/", "A" * 40)
RIGHT_WORDS = ("x", "x" * 12, "!", "~", "|", "z", "1.5", "#")


class Answering(unittest.TestCase):
    def test_numbers_rise_from_0(self):
        self.assertEqual(run(*[answer(1, 0, "HB", "1")] * 3), [[0, 0], [0, 1], [0, 2]])

    def test_edges_of_person_day_and_flag(self):
        for call in (answer(1, 0, "A", "1", flag=0), answer(10 ** 9, 100000, "A", "1", flag=3)):
            self.assertEqual(run(call), [[0, 0]])
        for call in (answer(0, 0, "A", "1"), answer(10 ** 9 + 1, 0, "A", "1"), answer(1, -1, "A", "1"),
                     answer(1, 100001, "A", "1"), answer(1, 0, "A", "1", flag=-1), answer(1, 0, "A", "1", flag=4)):
            self.assertEqual(run(call), [[-1]])

    def test_numbers_far_out_of_range(self):
        for far in (-HUGE, HUGE):
            self.assertEqual(run(answer(far, 0, "A", "1"), answer(1, far, "A", "1"), answer(1, 0, "A", "1", flag=far)),
                             [[-1]] * 3)

    def test_names(self):
        for name in ("A", "z", "A1234567", "abcdefgh", "Z0"):
            self.assertEqual(run(answer(1, 0, name, "1")), [[0, 0]], name)
        for name in WRONG_NAMES:
            self.assertEqual(run(answer(1, 0, name, "1")), [[-2]], name)

    def test_words(self):
        for word in RIGHT_WORDS:
            self.assertEqual(run(answer(1, 0, "A", word, unit=word)), [[0, 0]], word)
        for word in WRONG_WORDS:
            self.assertEqual(run(answer(1, 0, "A", word)), [[-2]], word)
            self.assertEqual(run(answer(1, 0, "A", "1", unit=word)), [[-2]], word)

    def test_60_answers_and_no_more(self):
        answered = run(*[answer(1, 0, "A", "1")] * 61, answer(0, 0, "A", "1"), answer(1, 0, "", "1"))
        self.assertEqual(answered, [[0, n] for n in range(60)] + [[-6], [-1], [-2]])

    def test_the_first_refusal_is_told(self):
        self.assertEqual(run(answer(0, 0, "", "")), [[-1]])
        self.assertEqual(run(answer(1, 0, "A", "1", unit="", flag=9)), [[-1]])

    def test_a_refusal_changes_nothing(self):
        answered = run(answer(0, 0, "A", "1"), answer(1, 0, "1", "1"), answer(1, 0, "A", "1"))
        self.assertEqual(answered[-1], [0, 0])
        self.assertEqual(report(["row A"], answer(0, 0, "A", "1"), answer(1, 0, "A", " ")), [["A         none"]])


class Correcting(unittest.TestCase):
    def test_versions_rise_and_there_are_at_most_6(self):
        answered = run(answer(1, 0, "A", "1"), *[correct(0, "2")] * 6, withdraw(0), correct(0, ""), correct(0, "1", 4))
        self.assertEqual(answered, [[0, 0]] + [[0, n] for n in range(1, 6)] + [[-6], [-6], [-2], [-1]])

    def test_a_refused_correction_changes_nothing(self):
        calls = [answer(1, 0, "A", "0")] + [correct(0, str(n)) for n in range(1, 8)] + [correct(0, "x y")]
        self.assertEqual(report(["text {value A}"], *calls), [["5"]])

    def test_no_such_answer_and_wrong_flags(self):
        for number in (-HUGE, -1, 1, HUGE):
            self.assertEqual(run(answer(1, 0, "A", "1"), correct(number, "1"), correct(number, "")),
                             [[0, 0], [-1], [-1]])
        for flag in (-HUGE, -1, 4, HUGE):
            self.assertEqual(run(answer(1, 0, "A", "1"), correct(0, "1", flag), correct(0, "", flag)),
                             [[0, 0], [-1], [-1]])
        self.assertEqual(run(correct(0, "1")), [[-1]])

    def test_words(self):
        for word in RIGHT_WORDS:
            self.assertEqual(run(answer(1, 0, "A", "1"), correct(0, word))[1], [0, 1], word)
        for word in WRONG_WORDS:
            self.assertEqual(run(answer(1, 0, "A", "1"), correct(0, word))[1], [-2], word)

    def test_what_is_withdrawn_is_not_corrected(self):
        answered = run(answer(1, 0, "A", "1"), withdraw(0), correct(0, "2"), correct(0, " "), correct(1, "2"))
        self.assertEqual(answered[1:], [[0, 1], [-3], [-2], [-1]])

    def test_the_newest_version_is_shown_with_its_flag(self):
        for flag, sign in enumerate(("", " L", " H", " !")):
            self.assertEqual(report(["text {value A}"], answer(1, 0, "A", "1", flag=flag)), [["1" + sign]])
            self.assertEqual(report(["text {value A}"], answer(1, 0, "A", "1", flag=1), correct(0, "2", flag)),
                             [["2" + sign]])


class Withdrawing(unittest.TestCase):
    def test_only_once(self):
        self.assertEqual(run(answer(1, 0, "A", "1"), correct(0, "2"), withdraw(0), withdraw(0))[2:], [[0, 2], [-3]])

    def test_not_standing_comes_ahead_of_too_many_versions(self):
        answered = run(answer(1, 0, "A", "1"), *[correct(0, "2")] * 4, withdraw(0), withdraw(0), correct(0, "3"))
        self.assertEqual(answered[5:], [[0, 5], [-3], [-3]])

    def test_no_such_answer(self):
        for number in (-HUGE, -1, 1, HUGE):
            self.assertEqual(run(answer(1, 0, "A", "1"), withdraw(number))[1], [-1])
        self.assertEqual(run(withdraw(0)), [[-1]])

    def test_a_refused_withdrawal_changes_nothing(self):
        calls = [answer(1, 0, "A", "0")] + [correct(0, str(n)) for n in range(1, 6)] + [withdraw(0)]
        self.assertEqual(report(["text {value A}"], *calls), [["5"]])

    def test_what_is_withdrawn_leaves_the_file(self):
        self.assertEqual(report(["text {value A}", "row A"], answer(1, 0, "A", "1"), withdraw(0)),
                         [["none", "A         none"]])
        self.assertEqual(report(["text {value A}"], answer(1, 0, "A", "1"), answer(1, 0, "A", "2"), withdraw(1)),
                         [["1"]])


if __name__ == "__main__":
    unittest.main()
