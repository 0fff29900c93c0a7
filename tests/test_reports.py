"""Call 4: the layout of a report, its pages, and the answers that it shows."""

import unittest

from tests.helper import (HUGE, about, answer, correct, issue, letter, report, run, show, template, template_text,
                          text_of, told_by, withdraw)


class TheFile(unittest.TestCase):
    def test_only_answers_of_the_person_and_up_to_the_day(self):
        calls = [answer(1, 5, "A", "own"), answer(2, 5, "A", "other"), answer(1, 7, "A", "later")]
        for day, value in ((4, "none"), (5, "own"), (6, "own"), (7, "later"), (100000, "later")):
            self.assertEqual(report(["text {value A}"], *calls, day=day), [[value]])
        self.assertEqual(report(["text {value A}"], *calls, person=2), [["other"]])
        self.assertEqual(report(["text {value A}"], *calls, person=3), [["none"]])

    def test_the_latest_day_and_of_one_day_the_last_one(self):
        calls = [answer(1, 9, "A", "a"), answer(1, 8, "A", "b"), answer(1, 9, "A", "c"), answer(1, 7, "A", "d")]
        self.assertEqual(report(["text {value A}"], *calls), [["c"]])
        self.assertEqual(report(["text {value A}"], *calls, withdraw(2)), [["a"]])
        self.assertEqual(report(["text {value A}"], *calls, withdraw(2), withdraw(0)), [["b"]])

    def test_a_correction_of_an_older_answer_does_not_make_it_best(self):
        calls = [answer(1, 9, "A", "a"), answer(1, 9, "A", "b"), correct(0, "c")]
        self.assertEqual(report(["text {value A}"], *calls), [["b"]])

    def test_names_are_told_apart_by_case(self):
        self.assertEqual(report(["text {value a} {value A}"], answer(1, 0, "a", "1")), [["1 none"]])


class Holes(unittest.TestCase):
    def test_person_and_day_are_those_of_the_report(self):
        calls = [answer(1000000000, 5, "A", "1")]
        self.assertEqual(report(["text p{person}d{day}v{value A}"], *calls, person=10 ** 9, day=0),
                         [["p1000000000d0vnone"]])
        self.assertEqual(report(["text {person}{day}"], person=7, day=100000), [["7100000"]])

    def test_pages_are_unknown_in_parts(self):
        self.assertEqual(report(["text {page} of {pages}"]), [["? of ?"]])

    def test_pages_in_head_and_foot(self):
        pages = report(["lines 5", "head {page}", "foot {pages}/{page}"] + ["blank"] * 7)
        self.assertEqual(pages, [["1", "", "", "", "3/1"], ["2", "", "", "", "3/2"], ["3", "", "3/3"]])

    def test_values_and_person_in_head_and_foot(self):
        pages = report(["head of {person} {day} {value A}", "foot {value B}"], answer(1, 0, "A", "7", flag=3))
        self.assertEqual(pages, [["of 1 100 7 !", "none"]])

    def test_a_hole_takes_part_in_a_piece(self):
        self.assertEqual(report(["width 20", "text ab{value A}cd"], answer(1, 0, "A", "x" * 12, flag=2)),
                         [["ab" + "x" * 12 + " Hcd"]])

    def test_a_flag_behind_a_value_may_begin_the_next_line(self):
        self.assertEqual(report(["width 20", "text 12345678{value A}"], answer(1, 0, "A", "x" * 12, flag=2)),
                         [["12345678" + "x" * 12, "H"]])


class Texts(unittest.TestCase):
    def test_pieces_stand_behind_single_blanks(self):
        self.assertEqual(report(["text   a   b  c  "]), [["a b c"]])

    def test_no_pieces_give_one_empty_line(self):
        self.assertEqual(report(["text ", "text    ", "text a"]), [["", "", "a"]])

    def test_a_line_is_filled_just_to_the_width(self):
        self.assertEqual(report(["width 20", "text " + "a" * 9 + " " + "b" * 10 + " c"]),
                         [["a" * 9 + " " + "b" * 10, "c"]])
        self.assertEqual(report(["width 20", "text " + "a" * 10 + " " + "b" * 10]), [["a" * 10, "b" * 10]])

    def test_a_piece_longer_than_the_width_is_cut(self):
        self.assertEqual(report(["width 20", "text a " + "x" * 45 + " b " + "y" * 20 + " c"]),
                         [["a", "x" * 20, "x" * 20, "x" * 5 + " b", "y" * 20, "c"]])
        self.assertEqual(report(["width 20", "text " + "x" * 40 + " b"]), [["x" * 20, "x" * 20, "b"]])
        self.assertEqual(report(["width 20", "text " + "x" * 21]), [["x" * 20, "x"]])

    def test_a_text_of_200_bytes(self):
        self.assertEqual(report(["width 100", "text " + "x" * 200]), [["x" * 100] * 2])
        self.assertEqual(report(["width 20", "text " + "x y " * 50]), [["x y x y x y x y x y"] * 10])


class Rows(unittest.TestCase):
    def test_a_row(self):
        self.assertEqual(report(["row HB"], answer(1, 12, "HB", "13.5", "g/dl", 2)),
                         [["HB        13.5 H        g/dl        day 12"]])

    def test_what_fills_its_place_has_no_blank_behind(self):
        self.assertEqual(report(["row A1234567"], answer(1, 100000, "A1234567", "v" * 12, "u" * 12, 1), day=100000),
                         [["A1234567  " + "v" * 12 + " L" + "u" * 12 + "day 100000"]])

    def test_without_an_answer(self):
        self.assertEqual(report(["row A1234567", "row B"]), [["A1234567  none", "B         none"]])

    def test_cut_to_the_width_without_end_blanks(self):
        call = answer(1, 12, "HB", "13.5", "g/dl", 2)
        whole = "HB        13.5 H        g/dl        day 12"
        for width in (20, 28, 30, 36, 37, 41, 42, 43):
            self.assertEqual(report([f"width {width}", "row HB"], call), [[whole[:width].rstrip(" ")]])


class Tables(unittest.TestCase):
    def test_without_answers_there_is_the_heading_alone(self):
        self.assertEqual(report(["table A B1234567"]), [["day       A              B1234567"]])

    def test_days_rise_and_missing_values_are_told(self):
        calls = [answer(1, 20, "A", "a20"), answer(1, 3, "B", "b3", flag=1), answer(1, 3, "A", "a3"),
                 answer(1, 7, "C", "c7"), answer(2, 8, "A", "other")]
        self.assertEqual(report(["table A B"], *calls), [[
            "day       A              B",
            "3         a3             b3 L",
            "20        a20            -"]])

    def test_the_last_five_days(self):
        calls = [answer(1, day, "AB"[day % 2], f"v{day}") for day in (9, 2, 5, 4, 7, 6, 3, 8)]
        self.assertEqual(report(["table A B"], *calls, day=8), [[
            "day       A              B",
            "4         v4             -",
            "5         -              v5",
            "6         v6             -",
            "7         -              v7",
            "8         v8             -"]])
        self.assertEqual(told_by(["table A B"], *calls, day=8), [(2, 0), (3, 0), (4, 0), (5, 0), (7, 0)])

    def test_five_days_and_six_days(self):
        calls = [answer(1, day, "A", f"v{day}") for day in range(6)]
        self.assertEqual([line[0] for line in report(["table A"], *calls, day=4)[0]], list("d01234"))
        self.assertEqual([line[0] for line in report(["table A"], *calls, day=5)[0]], list("d12345"))

    def test_two_answers_of_one_day(self):
        calls = [answer(1, 3, "A", "first"), answer(1, 3, "A", "last")]
        self.assertEqual(report(["table A"], *calls)[0][1], "3         last")
        self.assertEqual(told_by(["table A"], *calls), [(1, 0)])
        self.assertEqual(report(["table A"], *calls, withdraw(1))[0][1], "3         first")

    def test_one_name_twice(self):
        self.assertEqual(report(["table A A"], answer(1, 3, "A", "1")), [[
            "day       A              A", "3         1              1"]])

    def test_a_day_whose_answers_are_withdrawn_is_left_out(self):
        self.assertEqual(report(["table A"], answer(1, 3, "A", "1"), answer(1, 4, "A", "2"), withdraw(0)), [[
            "day       A", "4         2"]])

    def test_six_names_are_cut_to_the_width(self):
        call = answer(1, 3, "F", "f" * 12, flag=3)
        whole = "3         " + "-              " * 5 + "f" * 12 + " !"
        for width in (20, 24, 25, 86, 98, 99, 100):
            self.assertEqual(report([f"width {width}", "table A B C D E F"], call)[0][1], whole[:width].rstrip(" "))


class Ifs(unittest.TestCase):
    def test_parts_between_count_only_with_an_answer(self):
        lines = ["text a", "if A", "text b", "row A", "end", "text c"]
        self.assertEqual(report(lines), [["a", "c"]])
        self.assertEqual(len(report(lines, answer(1, 0, "A", "1"))[0]), 4)
        self.assertEqual(report(lines, answer(1, 0, "A", "1"), withdraw(0)), [["a", "c"]])
        self.assertEqual(report(lines, answer(2, 0, "A", "1"), answer(1, 101, "A", "1")), [["a", "c"]])

    def test_four_within_one_another(self):
        names = "ABCD"
        lines = [line for name in names for line in ("if " + name, "text " + name)]
        lines += [line for name in reversed(names) for line in ("end", "text behind" + name)]
        for bits in range(16):
            having = [name for place, name in enumerate(names) if bits >> place & 1]
            outer = [name for place, name in enumerate(names) if set(names[:place + 1]) <= set(having)]
            behind = [name for place, name in enumerate(names) if set(names[:place]) <= set(having)]
            wanted = outer + ["behind" + name for name in reversed(behind)]
            self.assertEqual(report(lines, *[answer(1, 0, name, "1") for name in having]), [wanted])

    def test_an_if_alone_shows_nothing(self):
        self.assertEqual(told_by(["if A", "text x", "end"], answer(1, 0, "A", "1")), [])


class Pages(unittest.TestCase):
    def shown(self, text):
        return text_of(run(template_text(text), issue(), show(0))[2])

    def test_the_bytes(self):
        self.assertEqual(self.shown("lines 5\n" + "text a\n" * 6), "a\n" * 5 + "\x0c\na\n\x0c\n")
        self.assertEqual(self.shown("head h\nfoot f\ntext a"), "h\na\nf\n\x0c\n")

    def test_an_empty_text_and_an_empty_body_give_one_page(self):
        self.assertEqual(self.shown(""), "\x0c\n")
        self.assertEqual(self.shown("head h\nfoot {pages}"), "h\n1\n\x0c\n")
        self.assertEqual(self.shown("if A\ntext a\nend\n"), "\x0c\n")

    def test_a_body_that_just_fills_a_page(self):
        for lines in (5, 39, 40):
            for settings in ([], ["head h"], ["foot f"], ["head ", "foot "]):
                room = lines - len(settings)
                for count, pages in ((room - 1, 1), (room, 1), (min(40, room + 1), 2 if room < 40 else 1)):
                    laid = report([f"lines {lines}"] + settings + ["blank"] * count)
                    self.assertEqual(len(laid), pages)
                    self.assertEqual(sum(len(page) - len(settings) for page in laid), count)

    def test_60_lines(self):
        laid = report(["lines 60", "width 20"] + ["text " + "x" * 40] * 31)
        self.assertEqual([len(page) for page in laid], [60, 2])

    def test_head_and_foot_are_cut_to_the_width_and_not_wrapped(self):
        self.assertEqual(report(["width 20", "head  a  b" + "x" * 40, "foot " + "y" * 19 + " z"]),
                         [[" a  b" + "x" * 15, "y" * 19]])
        self.assertEqual(report(["width 100", "head " + "h" * 101]), [["h" * 100]])

    def test_an_empty_head_is_a_line(self):
        self.assertEqual(report(["lines 5", "head ", "foot    "] + ["text a"] * 4),
                         [["", "a", "a", "a", ""], ["", "a", ""]])


class WhatIsShown(unittest.TestCase):
    def setUp(self):
        self.calls = [answer(1, 1, "A", "1"), answer(1, 2, "A", "2"), answer(1, 3, "B", "3"), correct(1, "4")]

    def test_by_each_kind_of_part(self):
        for lines, wanted in ((["text {value A}"], [(1, 1)]), (["row A"], [(1, 1)]), (["head {value B}"], [(2, 0)]),
                              (["foot {value A}{value B}"], [(1, 1), (2, 0)]),
                              (["table A"], [(0, 0), (1, 1)]), (["table B A"], [(0, 0), (1, 1), (2, 0)]),
                              (["blank", "text A {person}{day}{page}{pages}"], []), (["row C", "text {value C}"], [])):
            self.assertEqual(told_by(lines, *self.calls), wanted)

    def test_rising_and_each_once(self):
        self.assertEqual(told_by(["row B", "row A", "text {value A}{value B}"], *self.calls), [(1, 1), (2, 0)])

    def test_parts_that_do_not_count_show_nothing(self):
        self.assertEqual(told_by(["if C", "row A", "table A", "text {value B}", "end"], *self.calls), [])

    def test_also_where_cutting_takes_it_off(self):
        self.assertEqual(told_by(["width 20", "head " + "x" * 30 + "{value A}"], *self.calls), [(1, 1)])
        self.assertEqual(told_by(["width 20", "foot " + "x" * 30 + "{value B}"], *self.calls), [(2, 0)])
        self.assertEqual(told_by(["width 20", "table C D B"], *self.calls), [(2, 0)])


class Refusals(unittest.TestCase):
    def test_edges(self):
        for call in (issue(0, 1, 0, 0), issue(0, 10 ** 9, 100000, 19)):
            self.assertEqual(run(template("blank"), call)[1], [0, 0, 1])
        for call in (issue(-1), issue(1), issue(0, 0), issue(0, 10 ** 9 + 1), issue(0, 1, -1), issue(0, 1, 100001),
                     issue(0, 1, 1, -1), issue(0, 1, 1, 20)):
            self.assertEqual(run(template("blank"), call, issue())[1:], [[-1], [0, 0, 1]])

    def test_numbers_far_out_of_range(self):
        for far in (-HUGE, HUGE):
            for call in (issue(far), issue(0, far), issue(0, 1, far), issue(0, 1, 1, far)):
                self.assertEqual(run(template("blank"), call)[1], [-1])
        self.assertEqual(run(issue(0)), [[-1]])

    def test_40_sent(self):
        # Only 20 reports come in one list, so letters make up the rest.
        calls = [template("text {value A}"), answer(1, 0, "A", "1")]
        calls += [issue(0, 1, 100, reader) for reader in range(18)]
        calls += [correct(0, "2")] + [letter(reader) for reader in range(18)]
        calls += [correct(0, "3")] + [letter(reader) for reader in range(4)]
        answered = run(*calls, issue(0, 1, 100, 0), issue(1, 1, 100, 0), letter(4), letter(0), about(39), about(40))
        self.assertEqual([told[1] for call, told in zip(calls, answered) if call[0] in (4, 5)], list(range(40)))
        self.assertEqual(answered[-6:], [[-6], [-1], [-6], [-8], [0, 1, 3, 0, 1, 1, 0, 2], [-1]])


if __name__ == "__main__":
    unittest.main()
