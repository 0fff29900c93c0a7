"""What was sent: reports and letters, what readers were told by them, and who is due."""

from reportstold.layout import lay_out
from reportstold.records import READERS, WITHDRAWN, newest_number, newest_version, shown_value
from reportstold.signs import BLANK, ended_lines, number_row, row_of

REPORT = 0
LETTER = 1


class Sent:
    def __init__(self, kind, reader, person, pages, row, told):
        self.kind = kind
        self.reader = reader
        self.person = person
        self.pages = pages
        self.row = row
        # From an answer's number to the number of the version that this tells of it.
        self.told = told


def make_report(laboratory, template, person, day, reader):
    layout = lay_out(template, laboratory.answers, person, day)
    return Sent(REPORT, reader, person, layout.pages, layout.row, layout.shown)


def told_to(laboratory, reader):
    greatest = {}
    for thing in laboratory.sent:
        if thing.reader == reader:
            for number, version in thing.told.items():
                greatest[number] = max(version, greatest.get(number, 0))
    return greatest


def due_numbers(laboratory, told):
    return [number for number in sorted(told) if told[number] < newest_number(laboratory.answers[number])]


def all_duties(laboratory):
    duties = []
    for reader in range(READERS):
        for number in due_numbers(laboratory, told_to(laboratory, reader)):
            duties.append((reader, number))
    return duties


def make_letter(laboratory, reader):
    told_before = told_to(laboratory, reader)
    lines = [row_of("corrections")]
    told = {}
    for number in due_numbers(laboratory, told_before):
        answer = laboratory.answers[number]
        lines.append(correction_line(answer, answer.versions[told_before[number]]))
        told[number] = newest_number(answer)
    return Sent(LETTER, reader, 0, 1, ended_lines(lines), told)


def correction_line(answer, told_version):
    line = number_row(answer.person) + row_of(" day ") + number_row(answer.day)
    line = line + [BLANK] + answer.test + row_of(": ") + version_row(told_version)
    return line + row_of(" -> ") + version_row(newest_version(answer))


def version_row(version):
    return row_of("withdrawn") if version.status == WITHDRAWN else shown_value(version)
