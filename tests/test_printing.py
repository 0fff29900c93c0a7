"""The calls preview and print: a template laid out with nothing sent, and written down again."""

import unittest

from tests.helper import (HUGE, about, answer, correct, counts, duties, issue, letter, pages_of, preview, printed, row,
                          run, show, template, template_text, text_of, told, withdraw)

FAR_NUMBERS = (-1, -2, HUGE, -HUGE)
EVERY_PART = ("text for {person} on {day}: {value A} {page}{pages}", "text ", "row A", "table A B", "table A B C D E F",
              "blank", "if A", "if B", "row Other123", "end", "end")


def print_of(*lines):
    return text_of(run(template(*lines), printed())[-1])


class Print(unittest.TestCase):
    def test_nothing_told(self):
        self.assertEqual(print_of(), "width 60\nlines 40\n")
        self.assertEqual(text_of(run(template_text(""), printed())[-1]), "width 60\nlines 40\n")

    def test_number_by_number(self):
        self.assertEqual(run(template("blank"), printed())[-1],
                         [0, 24] + list(b"width 60\nlines 40\nblank\n"))

    def test_everything_told(self):
        lines = ["width 20", "lines 5", "head {page} of {pages}", "foot {value A}", *EVERY_PART]
        self.assertEqual(print_of(*lines), "\n".join(lines) + "\n")

    def test_some_of_the_four_told(self):
        self.assertEqual(print_of("width 100", "row A"), "width 100\nlines 40\nrow A\n")
        self.assertEqual(print_of("lines 60", "row A"), "width 60\nlines 60\nrow A\n")
        self.assertEqual(print_of("head h", "row A"), "width 60\nlines 40\nhead h\nrow A\n")
        self.assertEqual(print_of("foot f", "row A"), "width 60\nlines 40\nfoot f\nrow A\n")
        self.assertEqual(print_of("width 60", "lines 40", "row A"), "width 60\nlines 40\nrow A\n")

    def test_the_four_stand_in_their_order_however_told(self):
        self.assertEqual(print_of("foot f", "head h", "lines 7", "width 21"),
                         "width 21\nlines 7\nhead h\nfoot f\n")

    def test_an_empty_head_and_foot_are_there(self):
        self.assertEqual(print_of("head ", "text "), "width 60\nlines 40\nhead \ntext \n")
        self.assertEqual(print_of("foot "), "width 60\nlines 40\nfoot \n")

    def test_comments_and_empty_lines_are_left_out(self):
        self.assertEqual(print_of("", "# width 20", "width 30", "", "#", "row A", "#row B", "", "blank", "#"),
                         "width 30\nlines 40\nrow A\nblank\n")

    def test_every_sort_of_part(self):
        self.assertEqual(print_of(*EVERY_PART), "width 60\nlines 40\n" + "\n".join(EVERY_PART) + "\n")

    def test_texts_keep_all_their_bytes(self):
        signs = "".join(map(chr, range(32, 123))) + "|~"
        lines = ["head   two  blanks  ", "foot " + "f" * 200, "text " + signs, "text # head", "text   "]
        self.assertEqual(print_of(*lines), "width 60\nlines 40\n" + "\n".join(lines) + "\n")

    def test_a_last_line_without_its_end(self):
        self.assertEqual(text_of(run(template_text("head h\nrow A"), printed())[-1]),
                         "width 60\nlines 40\nhead h\nrow A\n")

    def test_what_is_printed_is_the_same_template(self):
        lines = ["# a", "lines 9", "foot {value A}", "", *EVERY_PART]
        once = print_of(*lines)
        answered = run(template(*lines), template_text(once), answer(1, 3, "A", "1"), printed(1), preview(0), preview(1))
        self.assertEqual(text_of(answered[-3]), once)
        self.assertEqual(answered[-2], answered[-1])

    def test_40_parts_of_a_text_of_2500_bytes(self):
        text = ("text " + "x" * 56 + "\n") * 40
        self.assertEqual(text_of(run(template_text(text + "#" * (2500 - len(text))), printed())[-1]),
                         "width 60\nlines 40\n" + text)

    def test_each_of_8_templates(self):
        calls = [template(f"width {20 + number}", f"row A{number}") for number in range(8)]
        answered = run(*calls, *[printed(number) for number in range(8)])[8:]
        self.assertEqual([text_of(each) for each in answered],
                         [f"width {20 + number}\nlines 40\nrow A{number}\n" for number in range(8)])

    def test_refusals(self):
        for number in (*FAR_NUMBERS, 1):
            self.assertEqual(run(template("row A"), printed(number))[-1], [-1])
        self.assertEqual(run(template("row"), printed(0))[-1], [-1])


class Preview(unittest.TestCase):
    lines = ("width 40", "lines 6", "head page {page} of {pages}", "foot {person} {value B}", *EVERY_PART)
    answers = (answer(1, 3, "A", "13.5", flag=2), answer(1, 4, "B", "neg"), answer(1, 9, "A", "14"),
               answer(2, 3, "A", "7"))

    def test_it_is_what_issue_then_sends(self):
        for person, day in ((1, 100), (1, 5), (1, 0), (2, 100000), (10 ** 9, 3)):
            calls = [template("text other"), template(*self.lines), *self.answers]
            answered = run(*calls, preview(1, person, day), issue(1, person, day), show(0))
            self.assertEqual(answered[-3], answered[-1])
            self.assertEqual(len(pages_of(text_of(answered[-3]))), answered[-2][2])

    def test_byte_for_byte(self):
        answered = run(template("head {page}/{pages}", "row A", "text {page}"), answer(1, 3, "A", "1", flag=1), preview())
        self.assertEqual(text_of(answered[-1]), "1/1\nA         1 L           u           day 3\n?\n\x0c\n")

    def test_a_template_without_parts(self):
        self.assertEqual(run(template(), preview())[-1], [0, 2, 12, 10])
        self.assertEqual(run(template("head "), preview())[-1], [0, 3, 10, 12, 10])

    def test_nothing_is_sent_and_nobody_is_told(self):
        calls = [template(*self.lines), *self.answers, preview(), correct(0, "5"), withdraw(1)]
        answered = run(*calls, show(0), about(0), duties(), counts(), letter(0), told(0, 0), told(0, 2), issue())
        self.assertEqual(answered[-8:], [[-1], [-1], [0, 0], [0, 1, 4, 0, 0], [-8], [0, 0], [0, 0], [0, 0, answered[-1][2]]])

    def test_it_does_not_tell_what_is_due(self):
        calls = [template("row A"), answer(1, 3, "A", "1"), issue(), correct(0, "2")]
        self.assertEqual(run(*calls, preview(), told(0, 0), duties())[-2:], [[0, 1, 0, 1], [0, 1, 0, 0]])

    def test_it_goes_with_the_answers_while_what_was_sent_does_not(self):
        calls = [template("row A"), answer(1, 3, "A", "1"), issue(), preview(), correct(0, "2"), preview(), withdraw(0)]
        answered = run(*calls, preview(), show(0))
        self.assertEqual(text_of(answered[3]), "A         1             u           day 3\n\x0c\n")
        self.assertEqual(text_of(answered[5]), "A         2             u           day 3\n\x0c\n")
        self.assertEqual(text_of(answered[7]), "A         none\n\x0c\n")
        self.assertEqual(answered[8], answered[3])

    def test_it_is_given_where_40_were_sent(self):
        calls = [template("row A"), answer(1, 3, "A", "1")] + [issue(reader=reader) for reader in range(10)]
        for value in "234":
            calls += [correct(0, value)] + [letter(reader) for reader in range(10)]
        answered = run(*calls, correct(0, "5"), issue(), preview())
        self.assertEqual(answered[-2], [-6])
        self.assertEqual(text_of(answered[-1]), "A         5             u           day 3\n\x0c\n")

    def test_refusals(self):
        begin = [template("row A"), answer(1, 3, "A", "1")]
        for number in (*FAR_NUMBERS, 1, 8):
            self.assertEqual(run(*begin, preview(number))[-1], [-1])
        for person in (*FAR_NUMBERS, 0, 10 ** 9 + 1):
            self.assertEqual(run(*begin, preview(person=person))[-1], [-1])
            self.assertEqual(run(*begin, preview(1, person, -1))[-1], [-1])
        for day in (*FAR_NUMBERS, 100001):
            self.assertEqual(run(*begin, preview(day=day))[-1], [-1])
        self.assertEqual(run(preview()), [[-1]])

    def test_the_ends_of_the_ranges(self):
        for person, day in ((1, 0), (10 ** 9, 100000)):
            self.assertEqual(run(template("text {person} {day}"), preview(0, person, day))[-1],
                             [0] + row(f"{person} {day}\n\x0c\n"))


if __name__ == "__main__":
    unittest.main()
