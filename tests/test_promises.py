"""Promises 1 to 3, held against many lists of calls, which are the same each time. (Promise 4 is with diff's tests.)"""

import random
import unittest

from tests.helper import (about, answer, correct, counts, diff, duties, issue, letter, newest, pages_of, preview,
                          printed, report, run, show, template, text_of, told, versions, withdraw, wrap)

WIDTHS = (20, 33, 60, 100)
PARTS = ("row A", "row B", "table A B", "table C A", "text of {value A} and {value C}", "blank", "if A", "if B", "end")


def some_template(chance, width):
    lines = [f"width {width}", f"lines {chance.choice((5, 6, 20))}"]
    if chance.random() < 0.5:
        lines.append("head for {person} {value A} page {page} of {pages} " + "h" * chance.randrange(60))
    if chance.random() < 0.5:
        lines.append("foot {day} {value B}")
    depth = 0
    for step in range(chance.randrange(12)):
        part = chance.choice(PARTS)
        if part == "end" and depth == 0 or part.startswith("if") and depth == 4:
            continue
        depth += {"end": -1, "if": 1}.get(part.split()[0], 0)
        lines.append(part)
    return template(*lines, *["end"] * depth)


def some_calls(chance):
    """The calls of a busy laboratory, ahead of them templates of the widths."""
    calls = [some_template(chance, width) for width in WIDTHS]
    issued = 0
    for step in range(120):
        kind = chance.randrange(10)
        if kind < 3:
            calls.append(answer(chance.randint(1, 2), chance.randint(0, 8), chance.choice("ABC"),
                                "v" * chance.randint(1, 12), flag=chance.randrange(4)))
        elif kind < 5:
            calls.append(correct(chance.randrange(20), str(step), chance.randrange(4)))
        elif kind == 5:
            calls.append(withdraw(chance.randrange(20)))
        elif kind < 8 and issued < 20:
            calls.append(issue(chance.randrange(4), chance.randint(1, 2), chance.randint(3, 9), chance.randrange(3)))
            issued += 1
        else:
            calls.append(letter(chance.randrange(4)))
    return calls


def sent_count(answered, calls):
    return sum(1 for call, each in zip(calls, answered) if call[0] in (4, 5) and each[0] == 0)


class WhatWasSentIsShownAgain(unittest.TestCase):
    def test_byte_for_byte_whatever_has_come_since(self):
        for seed in range(30):
            calls = some_calls(random.Random(seed))
            at_once = {}
            for size in range(1, len(calls) + 1):
                if calls[size - 1][0] in (4, 5):
                    answered = run(*calls[:size])
                    if answered[-1][0] == 0:
                        number = answered[-1][1]
                        at_once[number] = run(*calls[:size], show(number), about(number))[-2:]
            later = run(*calls, *[call for number in at_once for call in (show(number), about(number))])[len(calls):]
            self.assertEqual([later[place:place + 2] for place in range(0, len(later), 2)], list(at_once.values()))
            self.assertEqual(list(at_once), list(range(len(at_once))))


    def test_whatever_is_asked_between(self):
        for seed in range(30, 50):
            calls = some_calls(random.Random(seed))
            asking = [told(0, 0), versions(0), preview(0, 1, 9), printed(0), wrap(5, "a b"), diff(0, 0),
                      newest(1, 9, "A"), counts()]
            shown = [call for number in range(5) for call in (show(number), about(number))]
            with_asking = [call for place, each in enumerate(calls) for call in (each, asking[place % 8])]
            self.assertEqual(run(*with_asking, *shown)[2 * len(calls):], run(*calls, *shown)[len(calls):])

    def test_a_report_is_its_preview_byte_for_byte(self):
        compared = 0
        for seed in range(50, 60):
            calls = some_calls(random.Random(seed))
            for place, call in enumerate(calls):
                if call[0] == 4:
                    answered = run(*calls[:place], preview(*call[1:4]), *calls[place:])
                    if answered[place + 1][0] == 0:
                        self.assertEqual(answered[place], run(*calls, show(answered[place + 1][1]))[-1])
                        compared += 1
        self.assertGreater(compared, 50)


class WhoIsDue(unittest.TestCase):
    def expected(self, calls, answered, number_of_sent):
        """Duties by what about tells of all that was sent and by the versions there are."""
        last = {}
        for call, each in zip(calls, answered):
            if call[0] == 1 and each[0] == 0:
                last[each[1]] = 0
            if call[0] in (2, 3) and each[0] == 0:
                last[call[1]] = each[1]
        greatest = {}
        for each in run(*calls, *[about(number) for number in range(number_of_sent)])[len(calls):]:
            for number, version in zip(each[6::2], each[7::2]):
                pair = (each[2], number)
                greatest[pair] = max(version, greatest.get(pair, 0))
        return sorted(pair for pair, version in greatest.items() if version < last[pair[1]])

    def test_who_was_told_what_no_longer_stands_and_nobody_else(self):
        some_were_due = 0
        for seed in range(100, 130):
            calls = some_calls(random.Random(seed))
            for size in range(4, len(calls), 7):
                answered = run(*calls[:size], duties())
                pairs = list(zip(answered[-1][2::2], answered[-1][3::2]))
                self.assertEqual(answered[-1][:2], [0, len(pairs)])
                count = sent_count(answered, calls[:size])
                self.assertEqual(pairs, self.expected(calls[:size], answered, count))
                some_were_due += len(pairs)
        self.assertGreater(some_were_due, 100)

    def test_behind_a_letter_a_reader_is_due_for_nothing(self):
        for seed in range(200, 220):
            calls = some_calls(random.Random(seed))[:70]
            before = run(*calls, duties())[-1]
            for reader in range(4):
                due = before[2::2].count(reader)
                answered = run(*calls, letter(reader), duties(), letter(reader))
                after = answered[-2]
                self.assertEqual(answered[-3][::2], [0, due] if due else [-8])
                self.assertNotIn(reader, after[2::2])
                self.assertEqual(after[1], before[1] - due)
                self.assertEqual(answered[-1], [-8])


    def test_told_and_counts_speak_of_the_same_duties(self):
        for seed in range(220, 250):
            calls = some_calls(random.Random(seed))[:80]
            pairs = [(reader, number) for reader in range(5) for number in range(20)]
            answered = run(*calls, duties(), counts(), *[told(*pair) for pair in pairs])[len(calls):]
            due = list(zip(answered[0][2::2], answered[0][3::2]))
            self.assertEqual(answered[1][4], len(due))
            self.assertEqual([pair for pair, each in zip(pairs, answered[2:]) if each[:2] == [0, 1] and each[3] == 1],
                             [pair for pair in due if pair[1] < 20])

    def test_behind_a_letter_told_is_the_newest(self):
        asked = 0
        for seed in range(250, 270):
            calls = some_calls(random.Random(seed))[:70]
            before = run(*calls, duties())[-1]
            for reader, number in zip(before[2::2], before[3::2]):
                answered = run(*calls, letter(reader), told(reader, number), versions(number), counts())[-3:]
                size = 5 + answered[1][3] + answered[1][4 + answered[1][3]]
                self.assertEqual(answered[0], [0, 1, answered[1][size] - 1, 0])
                self.assertEqual(answered[2][4], before[1] - before[2::2].count(reader))
                asked += 1
        self.assertGreater(asked, 20)


def fewest_lines(pieces, width):
    """By trying every place where a line may end."""
    fewest = [0]
    for end in range(1, len(pieces) + 1):
        fewest.append(min(fewest[start] + 1 for start in range(end) if len(" ".join(pieces[start:end])) <= width))
    return fewest[-1]


class WidthsOfLines(unittest.TestCase):
    def test_no_line_of_a_report_is_longer_than_its_width(self):
        longest = dict.fromkeys(WIDTHS, 0)
        for seed in range(300, 330):
            calls = some_calls(random.Random(seed))
            answered = run(*calls)
            for call, each in zip(calls, answered):
                if call[0] == 4 and each[0] == 0:
                    width = WIDTHS[call[1]]
                    for page in pages_of(text_of(run(*calls, show(each[1]))[-1])):
                        for line in page:
                            self.assertLessEqual(len(line), width)
                            self.assertFalse(line.endswith(" "))
                            longest[width] = max(longest[width], len(line))
        self.assertEqual((longest[20], longest[33], longest[60]), (20, 33, 60))

    def test_no_line_of_a_preview_is_longer_than_its_width(self):
        for seed in range(330, 350):
            calls = some_calls(random.Random(seed))
            for number, width in enumerate(WIDTHS):
                for page in pages_of(text_of(run(*calls, preview(number, 1, 9))[-1])):
                    self.assertLessEqual(max([len(line) for line in page], default=0), width)

    def test_of_a_wrapped_text_no_line_is_longer_and_no_fewer_would_do(self):
        chance = random.Random(401)
        for step in range(300):
            width = chance.choice((1, 2, 3, 7, 20, 60, 99, 100))
            words = [chance.choice("abc") * chance.choice((1, 2, 3, width - 1, width, width + 1, 2 * width + 1))
                     for word in range(40)]
            text = (" " * chance.randint(1, 2)).join(words)[:300]
            pieces = [word[start:start + width] for word in text.split() for start in range(0, len(word), width)]
            answered = run(wrap(width, text))[0]
            lines, place = [], 2
            while place < len(answered):
                lines.append("".join(map(chr, answered[place + 1:place + 1 + answered[place]])))
                place += 1 + answered[place]
            self.assertEqual(answered[:2], [0, len(lines)])
            self.assertLessEqual(max(map(len, lines)), width)
            self.assertEqual(" ".join(lines).split(" "), pieces)
            self.assertEqual(len(lines), fewest_lines(pieces, width))

    def test_of_a_text_no_fewer_lines_would_do(self):
        chance = random.Random(400)
        for step in range(300):
            width = chance.randint(20, 50)
            words = []
            while len(" ".join(words)) < 140:
                words.append(chance.choice("abc") * chance.choice((1, 2, 5, 9, width // 2, width - 1, width, width + 1)))
            text = " ".join(words)[:200]
            pieces = [word[start:start + width] for word in text.split() for start in range(0, len(word), width)]
            lines = [line for page in report([f"width {width}", "text " + text]) for line in page]
            self.assertEqual(" ".join(lines).split(" "), pieces)
            self.assertEqual(len(lines), fewest_lines(pieces, width))


if __name__ == "__main__":
    unittest.main()
