"""Promises 1 to 3, held against many lists of calls, which are the same each time."""

import random
import unittest

from tests.helper import (about, answer, correct, duties, issue, letter, pages_of, report, run, show, template,
                          text_of, withdraw)

WIDTHS = (20, 33, 60, 100)
PARTS = ("row A", "row B", "table A B", "table C A", "text of {value A} and {value C}", "blank", "if A", "if B", "end")


def some_template(chance, width):
    lines = [f"width {width}", f"lines {chance.choice((5, 6, 20))}"]
    if chance.random() < 0.5:
        lines.append("head for {person} {value A} page {page} of {pages} " + "h" * chance.randrange(60))
    if chance.random() < 0.5:
        lines.append("foot {day} {value B}")
    depth = 0
    for step in range(chance.randrange(12)):
        part = chance.choice(PARTS)
        if part == "end" and depth == 0 or part.startswith("if") and depth == 4:
            continue
        depth += {"end": -1, "if": 1}.get(part.split()[0], 0)
        lines.append(part)
    return template(*lines, *["end"] * depth)


def some_calls(chance):
    """The calls of a busy laboratory, ahead of them templates of the widths."""
    calls = [some_template(chance, width) for width in WIDTHS]
    issued = 0
    for step in range(120):
        kind = chance.randrange(10)
        if kind < 3:
            calls.append(answer(chance.randint(1, 2), chance.randint(0, 8), chance.choice("ABC"),
                                "v" * chance.randint(1, 12), flag=chance.randrange(4)))
        elif kind < 5:
            calls.append(correct(chance.randrange(20), str(step), chance.randrange(4)))
        elif kind == 5:
            calls.append(withdraw(chance.randrange(20)))
        elif kind < 8 and issued < 20:
            calls.append(issue(chance.randrange(4), chance.randint(1, 2), chance.randint(3, 9), chance.randrange(3)))
            issued += 1
        else:
            calls.append(letter(chance.randrange(4)))
    return calls


def sent_count(answered, calls):
    return sum(1 for call, told in zip(calls, answered) if call[0] in (4, 5) and told[0] == 0)


class WhatWasSentIsShownAgain(unittest.TestCase):
    def test_byte_for_byte_whatever_has_come_since(self):
        for seed in range(30):
            calls = some_calls(random.Random(seed))
            at_once = {}
            for size in range(1, len(calls) + 1):
                if calls[size - 1][0] in (4, 5):
                    answered = run(*calls[:size])
                    if answered[-1][0] == 0:
                        number = answered[-1][1]
                        at_once[number] = run(*calls[:size], show(number), about(number))[-2:]
            later = run(*calls, *[call for number in at_once for call in (show(number), about(number))])[len(calls):]
            self.assertEqual([later[place:place + 2] for place in range(0, len(later), 2)], list(at_once.values()))
            self.assertEqual(list(at_once), list(range(len(at_once))))


class WhoIsDue(unittest.TestCase):
    def expected(self, calls, answered, number_of_sent):
        """Duties by what about tells of all that was sent and by the versions there are."""
        newest = {}
        for call, told in zip(calls, answered):
            if call[0] == 1 and told[0] == 0:
                newest[told[1]] = 0
            if call[0] in (2, 3) and told[0] == 0:
                newest[call[1]] = told[1]
        greatest = {}
        for told in run(*calls, *[about(number) for number in range(number_of_sent)])[len(calls):]:
            for number, version in zip(told[6::2], told[7::2]):
                pair = (told[2], number)
                greatest[pair] = max(version, greatest.get(pair, 0))
        return sorted(pair for pair, version in greatest.items() if version < newest[pair[1]])

    def test_who_was_told_what_no_longer_stands_and_nobody_else(self):
        some_were_due = 0
        for seed in range(100, 130):
            calls = some_calls(random.Random(seed))
            for size in range(4, len(calls), 7):
                answered = run(*calls[:size], duties())
                pairs = list(zip(answered[-1][2::2], answered[-1][3::2]))
                self.assertEqual(answered[-1][:2], [0, len(pairs)])
                count = sent_count(answered, calls[:size])
                self.assertEqual(pairs, self.expected(calls[:size], answered, count))
                some_were_due += len(pairs)
        self.assertGreater(some_were_due, 100)

    def test_behind_a_letter_a_reader_is_due_for_nothing(self):
        for seed in range(200, 220):
            calls = some_calls(random.Random(seed))[:70]
            before = run(*calls, duties())[-1]
            for reader in range(4):
                due = before[2::2].count(reader)
                answered = run(*calls, letter(reader), duties(), letter(reader))
                after = answered[-2]
                self.assertEqual(answered[-3][::2], [0, due] if due else [-8])
                self.assertNotIn(reader, after[2::2])
                self.assertEqual(after[1], before[1] - due)
                self.assertEqual(answered[-1], [-8])


def fewest_lines(pieces, width):
    """By trying every place where a line may end."""
    fewest = [0]
    for end in range(1, len(pieces) + 1):
        fewest.append(min(fewest[start] + 1 for start in range(end) if len(" ".join(pieces[start:end])) <= width))
    return fewest[-1]


class WidthsOfLines(unittest.TestCase):
    def test_no_line_of_a_report_is_longer_than_its_width(self):
        longest = dict.fromkeys(WIDTHS, 0)
        for seed in range(300, 330):
            calls = some_calls(random.Random(seed))
            answered = run(*calls)
            for call, told in zip(calls, answered):
                if call[0] == 4 and told[0] == 0:
                    width = WIDTHS[call[1]]
                    for page in pages_of(text_of(run(*calls, show(told[1]))[-1])):
                        for line in page:
                            self.assertLessEqual(len(line), width)
                            self.assertFalse(line.endswith(" "))
                            longest[width] = max(longest[width], len(line))
        self.assertEqual((longest[20], longest[33], longest[60]), (20, 33, 60))

    def test_of_a_text_no_fewer_lines_would_do(self):
        chance = random.Random(400)
        for step in range(300):
            width = chance.randint(20, 50)
            words = []
            while len(" ".join(words)) < 140:
                words.append(chance.choice("abc") * chance.choice((1, 2, 5, 9, width // 2, width - 1, width, width + 1)))
            text = " ".join(words)[:200]
            pieces = [word[start:start + width] for word in text.split() for start in range(0, len(word), width)]
            lines = [line for page in report([f"width {width}", "text " + text]) for line in page]
            self.assertEqual(" ".join(lines).split(" "), pieces)
            self.assertEqual(len(lines), fewest_lines(pieces, width))


if __name__ == "__main__":
    unittest.main()
