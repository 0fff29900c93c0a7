"""Call 0: the text of a template, and each reason a line is wrong by."""

import unittest

from tests.helper import HUGE, issue, pages_of, report, row, run, show, template, template_text, text_of


def told(text):
    return run(template_text(text))[0]


class RightTexts(unittest.TestCase):
    def right(self, text):
        self.assertEqual(told(text), [0, 0], text)

    def test_an_empty_text_has_no_lines_and_is_right(self):
        self.right("")

    def test_lines_that_mean_nothing(self):
        self.right("\n\n#\n# any {thing\n#width 1\n")
        self.right([35, 0, 255, 13, 10])

    def test_the_last_line_may_lack_its_end(self):
        self.right("width 20\ntext a")
        self.right("#")

    def test_every_kind_of_line(self):
        self.right("foot {page}/{pages}\nhead {person} {day}\nlines 5\nwidth 100\n"
                   "text {value HB}\nrow HB\ntable HB K\nblank\nif HB\nend\n")

    def test_ranges_of_width_and_lines(self):
        for line in ("width 20", "width 99", "width 100", "lines 5", "lines 9", "lines 10", "lines 60"):
            self.right(line)

    def test_a_text_may_be_empty_or_have_200_bytes(self):
        for word in ("text", "head", "foot"):
            self.right(word + " ")
            self.right(word + " " + "x" * 200)
            self.right(word + "  two  blanks  ")
            self.right(word + " !~{person}{day}{page}{pages}{value a1}")

    def test_names_of_1_and_8_bytes(self):
        for name in ("a", "Z", "A1234567", "zZ9"):
            for line in ("row ", "table ", "if "):
                self.right(line + name + ("\nend" if line == "if " else ""))
            self.right("text {value " + name + "}")

    def test_tables_of_1_to_6_names(self):
        for count in range(1, 7):
            self.right("table" + " HB" * count)

    def test_four_ifs_within_one_another(self):
        self.right("if A\n" * 4 + "end\n" * 4)
        self.right("if A\n" * 4 + "end\nif A\nend\n" + "end\n" * 3)

    def test_40_parts(self):
        self.right("blank\n" * 40)
        self.right("if A\nend\n" * 20)

    def test_8_templates_and_no_more(self):
        answered = run(*[template("blank")] * 9, template("blink"), template_text(""))
        self.assertEqual(answered, [[0, n] for n in range(8)] + [[-6], [1, 1, 1], [-6]])

    def test_a_text_of_2500_bytes(self):
        self.right("#" * 2499 + "\n")
        self.right("\n" * 2500)


class NoneOfThese(unittest.TestCase):
    def wrong(self, line):
        text = line if isinstance(line, str) else line.decode("latin-1")
        self.assertEqual(told(text), [1, 1, 1], text)
        self.assertEqual(told("\n#\nwidth 20\n" + text + "\nnext"), [1, 4, 1], text)

    def test_first_words(self):
        for line in ("x", "Text a", "texts a", "tex", " ", " blank", "  text a", "\ttext a", "width\t20", "blank\r"):
            self.wrong(line)
        self.wrong(b"\x00")
        self.wrong(b"\xff")
        self.wrong(b" #")

    def test_numbers(self):
        for word in ("width", "lines"):
            for number in ("", " ", " x", " 020", " 0", " 00", " +30", " -30", " 30 ", "  30", " 30 30", " 3O",
                           " 2.0", " 30x", " " + "9" * 600):
                self.wrong(word + number)
        for line in ("width 19", "width 101", "width 1000", "lines 4", "lines 61", "width 5", "lines 100", "width 200"):
            self.wrong(line)

    def test_texts(self):
        for word in ("text", "head", "foot"):
            self.wrong(word)
            self.wrong(word + " " + "x" * 201)
            self.wrong(word + " a\tb")
            self.wrong(word.encode() + b" \x1f")
            self.wrong(word.encode() + b" \x7f")
            self.wrong(word.encode() + b" \x80")

    def test_curved_brackets(self):
        for text in ("{", "}", "{}", "a{b", "a}b", "{person", "person}", "{{person}", "{person}}", "{{person}}",
                     "}{person}", "{person}{", "{ person}", "{person }", "{Person}", "{persons}", "{value}",
                     "{value }", "{value  HB}", "{value HB }", "{value 1A}", "{value A23456789}", "{value A B}",
                     "{valueHB}", "{value A-}", "{pag}", "{page1}", "{value {day}}", "{plain}"):
            self.wrong("text " + text)
            self.wrong("head x" + text)
            self.wrong("foot " + text + "x")

    def test_names(self):
        for word in ("row", "table", "if"):
            for rest in ("", " ", " 1A", " A23456789", " A ", "  A", " A-", " {A}", " A  B", " A\t"):
                self.wrong(word + rest)
        for line in ("row A B", "if A B", "table A B C D E F G", "table A B C D E F ", "table A 1"):
            self.wrong(line)
        self.wrong(b"row \xc4")

    def test_blank_and_end_stand_alone(self):
        for line in ("blank ", "blank x", "end ", "end A"):
            self.wrong(line)
        self.assertEqual(told("if A\nend A\nend\n"), [1, 2, 1])


class OtherReasons(unittest.TestCase):
    def test_a_setting_told_twice(self):
        for line in ("width 30", "lines 30", "head a", "foot a"):
            self.assertEqual(told(line + "\n" + line + "\n"), [1, 2, 2])
        self.assertEqual(told("head \nfoot \nwidth 20\n\nhead x"), [1, 5, 2])

    def test_a_setting_behind_a_part(self):
        for part in ("text ", "row A", "table A", "blank", "if A"):
            for line in ("width 30", "lines 30", "head a", "foot a"):
                self.assertEqual(told(part + "\n" + line), [1, 2, 2])

    def test_an_end_without_an_if(self):
        self.assertEqual(told("end"), [1, 1, 3])
        self.assertEqual(told("blank\nif A\nend\n\nend\nblank"), [1, 5, 3])

    def test_a_fifth_if_within_others(self):
        self.assertEqual(told("if A\n" * 5 + "end\n" * 5), [1, 5, 3])
        self.assertEqual(told("if A\n" * 4 + "end\nif B\nif C\n"), [1, 7, 3])

    def test_a_41st_part(self):
        for part in ("text ", "row A", "table A", "blank", "if A"):
            self.assertEqual(told("blank\n" * 40 + part), [1, 41, 4])
        self.assertEqual(told("if A\n" + "blank\n" * 39 + "end\n"), [1, 41, 4])

    def test_an_if_that_lacks_its_end(self):
        self.assertEqual(told("if A"), [1, 2, 3])
        self.assertEqual(told("if A\n"), [1, 2, 3])
        self.assertEqual(told("if A\n\n"), [1, 3, 3])
        self.assertEqual(told("if A\nif B\nend\n# x"), [1, 5, 3])
        self.assertEqual(told("if A\n" + "blank\n" * 39), [1, 41, 3])


class TheFirstOfSeveral(unittest.TestCase):
    def test_the_first_wrong_line_is_told(self):
        self.assertEqual(told("blank\nend\nnonsense\nwidth 20"), [1, 2, 3])
        self.assertEqual(told("if A\nnonsense"), [1, 2, 1])

    def test_reason_1_comes_ahead_of_2_and_3_and_4(self):
        self.assertEqual(told("width 20\nwidth 19"), [1, 2, 1])
        self.assertEqual(told("blank\nhead {"), [1, 2, 1])
        self.assertEqual(told("end x"), [1, 1, 1])
        self.assertEqual(told("if A\n" * 4 + "if 5"), [1, 5, 1])
        self.assertEqual(told("blank\n" * 40 + "row"), [1, 41, 1])

    def test_reasons_2_and_3_come_ahead_of_4(self):
        self.assertEqual(told("blank\n" * 40 + "width 20"), [1, 41, 2])
        self.assertEqual(told("blank\n" * 40 + "end"), [1, 41, 3])
        self.assertEqual(told("if A\n" * 4 + "blank\n" * 36 + "if B"), [1, 41, 3])

    def test_a_wrong_template_changes_nothing(self):
        answered = run(template("row"), issue(0), template("text a"), template("if A"), issue(1), issue(0), show(0))
        self.assertEqual(answered[:6], [[1, 1, 1], [-1], [0, 0], [1, 2, 3], [-1], [0, 0, 1]])
        self.assertEqual(pages_of(text_of(answered[6])), [["a"]])


class WhatIsNotTold(unittest.TestCase):
    def test_width_60_and_40_lines_without_head_and_foot(self):
        pages = report(["text " + "x" * 61] + ["blank"] * 39)
        self.assertEqual(pages, [["x" * 60, "x"] + [""] * 38, [""]])

    def test_numbers_far_out_of_range(self):
        for number in (-HUGE, -1, 1, HUGE):
            self.assertEqual(run([0] + row("blank"), issue(number))[1], [-1])


if __name__ == "__main__":
    unittest.main()
