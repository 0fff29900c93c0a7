"""The call diff, and promise 4: the numbers take just the fewest lines out and in."""

import itertools
import random
import unittest

from tests.helper import HUGE, answer, correct, diff, issue, letter, run, show, template, text_of, withdraw


def held(first, second):
    """The numbers for two reports with these lines; each has the line of its page's end besides."""
    calls = [template("lines 60", *["text " + line for line in lines]) for lines in (first, second)]
    answered = run(*calls, issue(0), issue(1), diff(0, 1))[-1]
    assert answered[0] == 0 and answered[1] == len(answered) - 2, answered
    return answered[2:]


def both_most(first, second):
    """How many lines can be both's, by trying every choice of lines of the first."""
    for size in range(min(len(first), len(second)), -1, -1):
        for choice in itertools.combinations(first, size):
            rest = iter(second)
            if all(line in rest for line in choice):
                return size


def by_the_words(first, second):
    """The numbers told, just as the document goes through the lines."""
    numbers = []
    while first and second:
        if first[0] == second[0]:
            numbers.append(0)
            first, second = first[1:], second[1:]
        elif both_most(first[1:], second) >= both_most(first, second[1:]):
            numbers.append(1)
            first = first[1:]
        else:
            numbers.append(2)
            second = second[1:]
    return numbers + [1] * len(first) + [2] * len(second)


def taken_out_and_in(numbers, first, second):
    """The second's lines, made of the first's by the numbers; the second's are asked only where one is put in."""
    made, place, other = [], 0, 0
    for number in numbers:
        if number == 2:
            made.append(second[other])
        if number == 0:
            made.append(first[place])
        place += number != 2
        other += number != 1
    assert place == len(first) and other == len(second), (place, other)
    return made


class Lines(unittest.TestCase):
    def test_a_thing_with_itself(self):
        answered = run(template("row A", "blank", "blank"), issue(), diff(0, 0))[-1]
        self.assertEqual(answered, [0, 4, 0, 0, 0, 0])

    def test_two_alike(self):
        self.assertEqual(held("abc", "abc"), [0, 0, 0, 0])
        self.assertEqual(held("", ""), [0])

    def test_one_line_other(self):
        self.assertEqual(held("abc", "axc"), [0, 1, 2, 0, 0])

    def test_a_line_out_or_in(self):
        self.assertEqual(held("abc", "ac"), [0, 1, 0, 0])
        self.assertEqual(held("ac", "abc"), [0, 2, 0, 0])

    def test_no_line_but_the_pages_end(self):
        self.assertEqual(held("ab", "xyz"), [1, 1, 2, 2, 2, 0])

    def test_unlike_lengths(self):
        self.assertEqual(held("", "abcde"), [2, 2, 2, 2, 2, 0])
        self.assertEqual(held("abcde", ""), [1, 1, 1, 1, 1, 0])
        self.assertEqual(held("c", "abcde"), [2, 2, 0, 2, 2, 0])
        self.assertEqual(held("abcde", "c"), [1, 1, 0, 1, 1, 0])

    def test_leaving_out_either_line_leaves_as_many(self):
        self.assertEqual(held("ab", "ba"), [1, 0, 2, 0])
        self.assertEqual(held("xa", "ya"), [1, 2, 0, 0])
        self.assertEqual(held("abab", "baba"), [1, 0, 0, 0, 2, 0])

    def test_leaving_out_the_seconds_leaves_more(self):
        self.assertEqual(held("abc", "bxabc"), [2, 2, 0, 0, 0, 0])
        self.assertEqual(held("abc", "cab"), [2, 0, 0, 1, 0])

    def test_leaving_out_the_firsts_leaves_more(self):
        self.assertEqual(held("cab", "abc"), [1, 0, 0, 2, 0])

    def test_equal_lines_that_come_several_times(self):
        self.assertEqual(held("aa", "a"), [0, 1, 0])
        self.assertEqual(held("a", "aa"), [0, 2, 0])
        self.assertEqual(held("aabaa", "aba"), [0, 1, 0, 0, 1, 0])
        self.assertEqual(held("aba", "aabaa"), [0, 2, 0, 0, 2, 0])
        self.assertEqual(held("xaxa", "aaxx"), [1, 0, 1, 0, 2, 2, 0])

    def test_equal_next_lines_are_boths_though_the_last_would_do_too(self):
        self.assertEqual(held("ab", "aab"), [0, 2, 0, 0])

    def test_lines_are_equal_by_all_their_bytes(self):
        self.assertEqual(held(["ab", "a b"], ["ab", "a  c"]), [0, 1, 2, 0])
        self.assertEqual(held(["ab"], ["abc"]), [1, 2, 0])
        self.assertEqual(held(["A"], ["a"]), [1, 2, 0])
        self.assertEqual(held(["a", "b"], ["a b"]), [1, 1, 2, 0])

    def test_ends_of_pages_are_lines(self):
        calls = [template("lines 5", *["text x"] * 7), template("lines 6", *["text x"] * 7)]
        answered = run(*calls, issue(0), issue(1), diff(0, 1))[-1]
        self.assertEqual(answered, [0, 10, 0, 0, 0, 0, 0, 1, 0, 2, 0, 0])

    def test_empty_lines_are_lines(self):
        self.assertEqual(held(["a", "", "b"], ["a", "b", ""]), [0, 1, 0, 2, 0])


class ReportsAndLetters(unittest.TestCase):
    begin = (template("row A", "row B"), answer(1, 3, "A", "1"), answer(1, 3, "B", "2"), issue(), correct(0, "5"))

    def test_a_report_and_the_one_behind_a_correction(self):
        self.assertEqual(run(*self.begin, issue(), diff(0, 1))[-1], [0, 4, 1, 2, 0, 0])

    def test_a_report_and_a_letter_that_share_no_line(self):
        answered = run(*self.begin, letter(), diff(0, 1), diff(1, 0))
        self.assertEqual(answered[-2], [0, 5, 1, 1, 1, 2, 2])
        self.assertEqual(answered[-1], [0, 5, 1, 1, 2, 2, 2])

    def test_a_report_and_a_letter_that_share_one(self):
        calls = [*self.begin, template("text corrections", "row B"), issue(1), letter(), diff(1, 2), diff(2, 1)]
        self.assertEqual(run(*calls)[-2:], [[0, 4, 0, 1, 1, 2], [0, 4, 0, 1, 2, 2]])

    def test_a_letter_with_itself_and_with_another(self):
        calls = [*self.begin, letter(), withdraw(0), correct(1, "6"), letter(), diff(1, 1), diff(1, 2), diff(2, 1)]
        answered = run(*calls)[-3:]
        self.assertEqual(answered, [[0, 2, 0, 0], [0, 4, 0, 1, 2, 2], [0, 4, 0, 1, 1, 2]])

    def test_what_was_sent_stays_as_it_was(self):
        calls = [*self.begin, letter(), show(0), show(1), diff(0, 1), diff(1, 0), show(0), show(1)]
        answered = run(*calls)
        self.assertEqual(answered[-6:-4], answered[-2:])

    def test_refusals(self):
        for number in (-1, 2, 40, HUGE, -HUGE):
            calls = [*self.begin, letter()]
            self.assertEqual(run(*calls, diff(number, 0), diff(1, number), diff(number, number))[-3:], [[-1]] * 3)
        self.assertEqual(run(diff(0, 0)), [[-1]])


class ThePromise(unittest.TestCase):
    def test_every_two_short_rows_of_two_sorts_of_lines(self):
        rows = [row for size in range(4) for row in itertools.product("ab", repeat=size)]
        for first in rows:
            for second in rows:
                self.assertEqual(held(first, second), by_the_words([*first, "\x0c"], [*second, "\x0c"]))

    def test_just_the_fewest_lines_out_and_in(self):
        chance = random.Random(14)
        for step in range(150):
            sorts = "abcde"[:chance.randint(1, 5)]
            first = [chance.choice(sorts) for line in range(chance.randrange(9))]
            second = [chance.choice(sorts) for line in range(chance.randrange(9))]
            numbers = held(first, second)
            first, second = first + ["\x0c"], second + ["\x0c"]
            self.assertEqual(taken_out_and_in(numbers, first, second), second)
            self.assertEqual(numbers.count(0), both_most(first, second))
            self.assertEqual(len(numbers) - numbers.count(0), len(first) + len(second) - 2 * both_most(first, second))
            self.assertEqual(numbers, by_the_words(first, second))

    def test_lines_of_reports_and_letters(self):
        chance = random.Random(15)
        for step in range(30):
            calls = [template("lines 5", "head {value A}", "table A B", "row B", "text {value A} {value B} for {day}")]
            calls += [answer(1, chance.randint(0, 4), chance.choice("AB"), chance.choice("123")) for number in range(6)]
            calls += [issue(day=3), correct(chance.randrange(6), "9"), withdraw(chance.randrange(6)), issue(day=4),
                      letter(), show(0), show(1), show(2)]
            shown = [text_of(each).split("\n")[:-1] for each in run(*calls)[-3:] if each[0] == 0]
            for place, other in itertools.product(range(len(shown)), repeat=2):
                numbers = run(*calls, diff(place, other))[-1][2:]
                self.assertEqual(taken_out_and_in(numbers, shown[place], shown[other]), shown[other])
                self.assertEqual(numbers.count(0), both_most(shown[place], shown[other]))


if __name__ == "__main__":
    unittest.main()
