"""The program held against a second, plainer one, which is written over texts and patterns."""

import random
import re
import unittest

from tests.helper import (about, answer, correct, counts, diff, duties, issue, letter, newest, preview, printed, row,
                          run, show, template_text, told, versions, withdraw, wrap)

NAME = r"[A-Za-z][A-Za-z0-9]{0,7}"
WORD = r"[!-z|~]{1,12}"
TEXT = r"(?:[ -z|~]|\{(?:person|day|page|pages|value " + NAME + r")\})*"
SETTING = re.compile(r"(width|lines) ([1-9][0-9]*)|(head|foot) (" + TEXT + ")")
PART = re.compile(r"text (?P<text>" + TEXT + r")|row (?P<row>" + NAME + r")|table (?P<table>" + NAME
                  + r"(?: " + NAME + r"){0,5})|(?P<blank>blank)|if (?P<if>" + NAME + r")|(?P<end>end)")


def read(text):
    """Settings and parts; or the wrong line's number and the reason."""
    lines = text.split("\n")
    lines = lines[:-1] if lines[-1] == "" else lines
    settings, parts, depth = {}, [], 0
    for number, line in enumerate(lines, 1):
        if line == "" or line[0] == "#":
            continue
        setting, part = SETTING.fullmatch(line), PART.fullmatch(line)
        if setting and setting[1]:
            low, high = {"width": (20, 100), "lines": (5, 60)}[setting[1]]
            setting = setting if low <= int(setting[2]) <= high else None
        long_text = line[:5] in ("text ", "head ", "foot ") and len(line) > 205
        if long_text or not (setting or part):
            return number, 1
        if setting:
            word = line.split(" ")[0]
            if word in settings or parts:
                return number, 2
            settings[word] = setting[2] or setting[4]
            continue
        kind = part.lastgroup
        if (kind, depth) in (("end", 0), ("if", 4)):
            return number, 3
        if len(parts) == 40:
            return number, 4
        depth += (kind == "if") - (kind == "end")
        parts.append((kind, part[kind]))
    return (len(lines) + 1, 3) if depth else (settings, parts)


def in_lines(text, width):
    pieces = re.findall("[^ ]{1,%d}" % width, text)
    lines = pieces[:1] or [""]
    for piece in pieces[1:]:
        if len(lines[-1] + " " + piece) <= width:
            lines[-1] += " " + piece
        else:
            lines.append(piece)
    return lines


def held(first, second):
    """The numbers by a table of how many lines can be both's from each two places on."""
    most = {}
    for place in range(len(first), -1, -1):
        for other in range(len(second), -1, -1):
            if place == len(first) or other == len(second):
                most[place, other] = 0
            elif first[place] == second[other]:
                most[place, other] = 1 + most[place + 1, other + 1]
            else:
                most[place, other] = max(most[place + 1, other], most[place, other + 1])
    numbers, place, other = [], 0, 0
    while (place, other) != (len(first), len(second)):
        if first[place:place + 1] == second[other:other + 1]:
            numbers, place, other = numbers + [0], place + 1, other + 1
        elif other == len(second) or place < len(first) and most[place + 1, other] == most[place, other]:
            numbers, place = numbers + [1], place + 1
        else:
            numbers, other = numbers + [2], other + 1
    return numbers


def shown(version):
    return "withdrawn" if version is None else version[0] + ("", " L", " H", " !")[version[1]]


class Model:
    def __init__(self):
        self.templates, self.answers, self.sent = [], [], []
        # Of issue, preview and diff together, and of show, a list has no more than these.
        self.left = {"laid out": 20, "shown": 40}

    def template(self, text):
        made = read(text)
        if isinstance(made[0], int):
            return [1, *made]
        if len(self.templates) == 8:
            return [-6]
        self.templates.append(made)
        return [0, len(self.templates) - 1]

    def answer(self, person, day, test, value, unit, flag):
        if not (1 <= person <= 10 ** 9 and 0 <= day <= 10 ** 5 and flag in range(4)):
            return [-1]
        if not (re.fullmatch(NAME, test) and re.fullmatch(WORD, unit) and re.fullmatch(WORD, value)):
            return [-2]
        if len(self.answers) == 60:
            return [-6]
        self.answers.append((person, day, test, unit, [(value, flag)]))
        return [0, len(self.answers) - 1]

    def change(self, number, version):
        if number not in range(len(self.answers)) or version and version[1] not in range(4):
            return [-1]
        if version and not re.fullmatch(WORD, version[0]):
            return [-2]
        versions = self.answers[number][4]
        if versions[-1] is None:
            return [-3]
        if len(versions) == 6:
            return [-6]
        versions.append(version)
        return [0, len(versions) - 1]

    def lay_out(self, made, person, day):
        settings, parts = made
        width, size = int(settings.get("width", 60)), int(settings.get("lines", 40))
        tells = {}

        def find(test, only_day=None):
            found = [(a[1], n) for n, a in enumerate(self.answers)
                     if a[0] == person and a[1] <= day and a[2] == test and a[4][-1] is not None
                     and (only_day is None or a[1] == only_day)]
            return max(found)[1] if found else None

        def value(number, missing):
            if number is None:
                return missing
            tells[number] = len(self.answers[number][4]) - 1
            return shown(self.answers[number][4][-1])

        def fill(text, page="?", pages="?"):
            values = {"person": person, "day": day, "page": page, "pages": pages}
            return re.sub(r"\{(?:value )?(\w+)\}", lambda m: str(
                value(find(m[1]), "none") if m[0].startswith("{value ") else values[m[1]]), text)

        body, outer = [], []
        for kind, rest in parts:
            if kind == "if":
                outer.append(find(rest) is not None)
            elif kind == "end":
                outer.pop()
            elif False in outer:
                continue
            elif kind == "text":
                body += in_lines(fill(rest), width)
            elif kind == "blank":
                body.append("")
            elif kind == "row":
                number = find(rest)
                line = rest.ljust(10) + value(number, "none")
                if number is not None:
                    line = f"{line:24}{self.answers[number][3]:12}day {self.answers[number][1]}"
                body.append(line[:width])
            else:
                names = rest.split(" ")
                days = {d for d in range(day + 1) for name in names if find(name, d) is not None}
                cells = [["day"] + names] + [[str(d)] + [value(find(name, d), "-") for name in names]
                                             for d in sorted(days)[-5:]]
                body += ["".join([line[0].ljust(10)] + [cell.ljust(15) for cell in line[1:]])[:width] for line in cells]
        room = size - ("head" in settings) - ("foot" in settings)
        pages = [body[start:start + room] for start in range(0, len(body), room)] or [[]]
        text = ""
        for page, lines in enumerate(pages, 1):
            head = [fill(settings["head"], page, len(pages))[:width]] if "head" in settings else []
            foot = [fill(settings["foot"], page, len(pages))[:width]] if "foot" in settings else []
            text += "".join(line.rstrip(" ") + "\n" for line in head + lines + foot) + "\x0c\n"
        return text, len(pages), tells

    def issue(self, number, person, day, reader):
        if not (number in range(len(self.templates)) and 1 <= person <= 10 ** 9 and 0 <= day <= 10 ** 5
                and reader in range(20)):
            return [-1]
        if len(self.sent) == 40:
            return [-6]
        text, pages, tells = self.lay_out(self.templates[number], person, day)
        self.sent.append((0, reader, person, pages, tells, text))
        return [0, len(self.sent) - 1, pages]

    def known(self, reader):
        known = {}
        for thing in self.sent:
            if thing[1] == reader:
                for number, version in thing[4].items():
                    known[number] = max(known.get(number, -1), version)
        return known

    def due(self, reader):
        known = self.known(reader)
        return {n: known[n] for n in sorted(known) if known[n] < len(self.answers[n][4]) - 1}

    def letter(self, reader):
        if reader not in range(20):
            return [-1]
        due = self.due(reader)
        if not due:
            return [-8]
        if len(self.sent) == 40:
            return [-6]
        text = "corrections\n"
        for number, version in due.items():
            person, day, test, unit, versions = self.answers[number]
            text += f"{person} day {day} {test}: {shown(versions[version])} -> {shown(versions[-1])}\n"
        self.sent.append((1, reader, 0, 1, {n: len(self.answers[n][4]) - 1 for n in due}, text))
        return [0, len(self.sent) - 1, len(due)]

    def show(self, number):
        return [0] + row(self.sent[number][5]) if number in range(len(self.sent)) else [-1]

    def about(self, number):
        if number not in range(len(self.sent)):
            return [-1]
        thing = self.sent[number]
        return [0, *thing[:4], len(thing[4])] + [x for pair in sorted(thing[4].items()) for x in pair]

    def duties(self):
        pairs = [(reader, number) for reader in range(20) for number in self.due(reader)]
        return [0, len(pairs)] + [x for pair in pairs for x in pair]

    def told(self, reader, number):
        if reader not in range(20) or number not in range(len(self.answers)):
            return [-1]
        known = self.known(reader)
        return [0, 1, known[number], int(number in self.due(reader))] if number in known else [0, 0]

    def versions(self, number):
        if number not in range(len(self.answers)):
            return [-1]
        person, day, test, unit, kept = self.answers[number]
        answered = [0, person, day] + row(test) + row(unit) + [len(kept)]
        for place, version in enumerate(kept):
            answered += [2, 0, 0] if version is None else [min(place, 1), version[1]] + row(version[0])
        return answered

    def preview(self, number, person, day):
        if not (number in range(len(self.templates)) and 1 <= person <= 10 ** 9 and 0 <= day <= 10 ** 5):
            return [-1]
        return [0] + row(self.lay_out(self.templates[number], person, day)[0])

    def printed(self, number):
        if number not in range(len(self.templates)):
            return [-1]
        settings, parts = self.templates[number]
        lines = [f"{word} {settings[word]}" for word in ("head", "foot") if word in settings]
        lines += [kind if kind in ("blank", "end") else f"{kind} {rest}" for kind, rest in parts]
        front = f"width {settings.get('width', 60)}\nlines {settings.get('lines', 40)}\n"
        return [0] + row(front + "".join(line + "\n" for line in lines))

    def wrap(self, width, text):
        if width not in range(1, 101):
            return [-1]
        if not re.fullmatch("[ -~]*", text):
            return [-2]
        lines = in_lines(text, width)
        return [0, len(lines)] + [x for line in lines for x in row(line)]

    def diff(self, place, other):
        if place not in range(len(self.sent)) or other not in range(len(self.sent)):
            return [-1]
        numbers = held(self.sent[place][5].split("\n")[:-1], self.sent[other][5].split("\n")[:-1])
        return [0, len(numbers)] + numbers

    def newest(self, person, day, test):
        if not (1 <= person <= 10 ** 9 and 0 <= day <= 10 ** 5):
            return [-1]
        if not re.fullmatch(NAME, test):
            return [-2]
        found = [(a[1], n, len(a[4]) - 1) for n, a in enumerate(self.answers)
                 if a[0] == person and a[1] <= day and a[2] == test and a[4][-1] is not None]
        return [0, 1, *max(found)[1:]] if found else [0, 0]

    def counts(self):
        return [0, len(self.templates), len(self.answers), len(self.sent), self.duties()[1]]


def some_text(chance):
    bits = ["{person}", "{day}", "{page}", "{pages}", "{value A}", "{value B2}", "{value c}", " ", "  ", "word", "of",
            "longer" * 4, "x" * 61, "!~|"]
    if chance.random() < 0.02:
        bits += ["{", "}", "{value 1}", "\t", "y" * 201]
    return "".join(chance.choice(bits) + " " * chance.randrange(2) for bit in range(chance.randrange(12)))


def some_line(chance, parts_begun):
    names = ("A", "B2", "c", "Other123")
    lines = ["text " + some_text(chance), "row " + chance.choice(names), "blank", "end", "# x", "",
             "table " + " ".join(chance.choice(names) for n in range(chance.randint(1, 6))), "if " + chance.choice(names)]
    settings = [f"width {chance.randint(20, 100)}", f"lines {chance.randint(5, 12)}", "head " + some_text(chance),
                "foot " + some_text(chance)]
    if chance.random() < 0.01:
        return chance.choice(settings + ["width 19", "lines 61", "row", "table A  B", "head", "text", "end ", " ", "if 1",
                                         "table A B A B A B A", "width 020", "\xff", "Blank"])
    return chance.choice(lines if parts_begun else settings)


def some_template(chance):
    lines, depth = [], 0
    for word in range(chance.randrange(4)):
        line = some_line(chance, False)
        if chance.random() < 0.05 or all(line[:5] != other[:5] for other in lines):
            lines.append(line)
    for step in range(chance.choice((3, 10, 20, 45))):
        line = some_line(chance, True)
        change = line.startswith("if") - (line == "end")
        if 0 <= depth + change <= 4 or chance.random() < 0.02:
            lines.append(line)
            depth += change
    lines += ["end"] * (depth if chance.random() < 0.95 else depth - 1)
    return "\n".join(lines)[:2500] + "\n" * chance.randrange(2)


def number_near(chance, low, high, edges):
    return chance.choice((*edges, -10 ** 18, 10 ** 18)) if chance.random() < 0.02 else chance.randint(low, high)


def some_word(chance):
    if chance.random() < 0.03:
        return chance.choice(("", "x" * 13, "a b", "{", "}", "\x7f", "\n"))
    return chance.choice(("1", "13.5", "~" * 12, "<5", "neg", "v" * 11))


def some_call(chance, model):
    """A call and what the plainer program answers to it."""
    kind = chance.choice((0, 1, 1, 1, 1, 2, 2, 3, 4, 4, 4, 5, 6, 6, 7, 8, 9, 9, 10, 11, 12, 13, 14, 14, 15, 15, 16))
    bound = {4: "laid out", 11: "laid out", 14: "laid out", 6: "shown"}.get(kind)
    if bound is not None:
        model.left[bound] -= 1
        kind = kind if model.left[bound] >= 0 else 8
    person = number_near(chance, 1, 2, (0, 10 ** 9, 10 ** 9 + 1))
    day = number_near(chance, 0, 12, (-1, 100001))
    flag = number_near(chance, 0, 3, (-1, 4))
    reader = number_near(chance, 0, 2, (-1, 19, 20))
    place = chance.randint(-1, len(model.answers)) if chance.random() < 0.1 else chance.randint(0, 15)
    if kind == 0:
        text = some_template(chance)
        return template_text(text), model.template(text)
    if kind == 1:
        test = chance.choice(("A", "B2", "c", "A", "B2", "c", "A", "B2", "c", "Other123", "1A", ""))
        value, unit = some_word(chance), some_word(chance)
        return answer(person, day, test, value, unit, flag), model.answer(person, day, test, value, unit, flag)
    if kind == 2:
        value = some_word(chance)
        return correct(place, value, flag), model.change(place, (value, flag))
    if kind == 3:
        return withdraw(place), model.change(place, None)
    if kind == 4:
        number = chance.randint(0, max(0, len(model.templates) - 1))
        return issue(number, person, day, reader), model.issue(number, person, day, reader)
    if kind == 5:
        return letter(reader), model.letter(reader)
    if kind == 6:
        number = chance.randint(-1, len(model.sent))
        return show(number), model.show(number)
    if kind == 7:
        number = chance.randint(-1, len(model.sent))
        return about(number), model.about(number)
    if kind == 8:
        return duties(), model.duties()
    return some_later_call(chance, model, kind, person, day, reader, place)


def some_later_call(chance, model, kind, person, day, reader, place):
    number = chance.randint(0, max(0, len(model.templates) - 1)) if chance.random() < 0.95 else len(model.templates)
    if kind == 9:
        return told(reader, place), model.told(reader, place)
    if kind == 10:
        return versions(place), model.versions(place)
    if kind == 11:
        return preview(number, person, day), model.preview(number, person, day)
    if kind == 12:
        return printed(number), model.printed(number)
    if kind == 13:
        width, text = number_near(chance, 1, 30, (0, 99, 100, 101)), some_text(chance)[:300]
        return wrap(width, text), model.wrap(width, text)
    if kind == 14:
        first, second = [chance.randint(-(chance.random() < 0.05), len(model.sent)) for step in range(2)]
        return diff(first, second), model.diff(first, second)
    if kind == 15:
        test = chance.choice(("A", "B2", "c", "A", "B2", "c", "Other123", "2B"))
        return newest(person, day, test), model.newest(person, day, test)
    return counts(), model.counts()


class HeldAgainstThePlainerProgram(unittest.TestCase):
    def test_many_lists_of_calls(self):
        seen = {}
        for seed in range(400):
            chance, model = random.Random(seed), Model()
            pairs = [some_call(chance, model) for step in range(250)]
            answered = run(*[call for call, wanted in pairs])
            for place, (call, wanted) in enumerate(pairs):
                self.assertEqual(answered[place], wanted, (seed, place, call))
                seen[call[0], wanted[0] if wanted[0] != 1 else wanted[2]] = True
        wanted = [(0, 0), (0, 1), (0, 2), (0, 3), (0, 4), (0, -6), (1, 0), (1, -1), (1, -2), (2, 0), (2, -1), (2, -2),
                  (2, -3), (2, -6), (3, 0), (3, -1), (3, -3), (4, 0), (4, -1), (5, 0), (5, -1), (5, -8), (6, 0),
                  (6, -1), (7, 0), (7, -1), (8, 0), (9, 0), (9, -1), (10, 0), (10, -1), (11, 0), (11, -1), (12, 0),
                  (12, -1), (13, 0), (13, -1), (13, -2), (14, 0), (14, -1), (15, 0), (15, -1), (15, -2), (16, 0)]
        self.assertEqual([pair for pair in wanted if pair not in seen], [])


if __name__ == "__main__":
    unittest.main()
