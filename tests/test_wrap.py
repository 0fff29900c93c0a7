"""The call wrap: a text put into lines of its own width."""

import unittest

from tests.helper import HUGE, preview, row, run, template, text_of, wrap


def wrapped(width, text):
    """The lines that wrap answers, as texts."""
    answered = run(wrap(width, text))[0]
    assert answered[0] == 0, answered
    lines, place = [], 2
    while place < len(answered):
        end = place + 1 + answered[place]
        lines.append(bytes(answered[place + 1:end]).decode("latin-1"))
        place = end
    assert place == len(answered) and len(lines) == answered[1]
    return lines


class Lines(unittest.TestCase):
    def test_number_by_number(self):
        self.assertEqual(run(wrap(3, "a b cd"))[0], [0, 2, 3, 97, 32, 98, 2, 99, 100])

    def test_as_many_words_in_a_line_as_fit(self):
        self.assertEqual(wrapped(10, "one two three four"), ["one two", "three four"])
        self.assertEqual(wrapped(9, "one two three four"), ["one two", "three", "four"])
        self.assertEqual(wrapped(18, "one two three four"), ["one two three four"])
        self.assertEqual(wrapped(17, "one two three four"), ["one two three", "four"])

    def test_an_empty_text_is_one_empty_line(self):
        for width in (1, 20, 100):
            self.assertEqual(run(wrap(width, ""))[0], [0, 1, 0])

    def test_blanks_alone_are_one_empty_line(self):
        for size in (1, 2, 99, 300):
            self.assertEqual(run(wrap(2, " " * size))[0], [0, 1, 0])

    def test_several_blanks_together_are_as_one(self):
        self.assertEqual(wrapped(20, "a  b   c"), ["a b c"])
        self.assertEqual(wrapped(20, "  a b  "), ["a b"])
        self.assertEqual(wrapped(1, "  a  b  "), ["a", "b"])

    def test_a_piece_of_just_the_width(self):
        self.assertEqual(wrapped(5, "abcde"), ["abcde"])
        self.assertEqual(wrapped(5, "x abcde y"), ["x", "abcde", "y"])

    def test_a_piece_of_a_byte_more(self):
        self.assertEqual(wrapped(5, "abcdef"), ["abcde", "f"])
        self.assertEqual(wrapped(5, "x abcdef yz"), ["x", "abcde", "f yz"])
        self.assertEqual(wrapped(5, "x abcdef wxyz"), ["x", "abcde", "f", "wxyz"])

    def test_a_piece_of_several_widths(self):
        self.assertEqual(wrapped(3, "abcdef"), ["abc", "def"])
        self.assertEqual(wrapped(3, "abcdefgh"), ["abc", "def", "gh"])

    def test_the_first_part_of_a_long_piece_begins_a_line(self):
        self.assertEqual(wrapped(4, "a bcdefg"), ["a", "bcde", "fg"])

    def test_width_1(self):
        self.assertEqual(wrapped(1, "ab c"), ["a", "b", "c"])
        self.assertEqual(wrapped(1, "x" * 300), ["x"] * 300)

    def test_width_100_and_300_bytes(self):
        self.assertEqual(wrapped(100, "x" * 300), ["x" * 100] * 3)
        self.assertEqual(wrapped(100, ("y" * 49 + " ") * 6), ["y" * 49 + " " + "y" * 49] * 3)
        self.assertEqual(wrapped(100, "z " * 150), [" ".join("z" * 50)] * 3)

    def test_holes_are_not_filled(self):
        self.assertEqual(wrapped(20, "{person} {value A}"), ["{person} {value A}"])
        self.assertEqual(wrapped(20, "}{ {x"), ["}{ {x"])

    def test_every_byte_from_32_to_126(self):
        text = "".join(map(chr, range(33, 127)))
        self.assertEqual(wrapped(100, " " + text), [text])

    def test_a_text_of_a_template_goes_into_the_same_lines(self):
        text = "some words of a text, averyverylongonethatiscut and  others"
        for width in (20, 21, 37, 100):
            laid_out = text_of(run(template(f"width {width}", "text " + text), preview())[-1])
            self.assertEqual("\n".join(wrapped(width, text)) + "\n\x0c\n", laid_out)


class Refusals(unittest.TestCase):
    def test_a_width_out_of_the_range(self):
        for width in (0, 101, -1, HUGE, -HUGE):
            self.assertEqual(run(wrap(width, "a"))[0], [-1])
            self.assertEqual(run(wrap(width, ""))[0], [-1])

    def test_a_byte_out_of_the_range(self):
        for byte in (0, 9, 10, 12, 13, 31, 127, 128, 160, 255):
            for text in ([byte], [97, byte], [byte, 32], [32] * 299 + [byte]):
                self.assertEqual(run(wrap(20, text))[0], [-2])

    def test_both_due(self):
        self.assertEqual(run(wrap(0, [10]))[0], [-1])
        self.assertEqual(run(wrap(101, [255]))[0], [-1])

    def test_the_next_call_is_found(self):
        self.assertEqual(run(wrap(0, "abc"), wrap(5, [1, 2]), wrap(5, "ab"), [8]),
                         [[-1], [-2], [0, 1] + row("ab"), [0, 0]])


if __name__ == "__main__":
    unittest.main()
