"""The calls on one laboratory, handed in as one list of whole numbers and answered as one."""

from reportstold.records import Answer, CORRECTED, FINAL, Laboratory, Version, WITHDRAWN
from reportstold.records import is_day, is_flag, is_person, is_reader, newest_number, stands
from reportstold.sending import all_duties, make_letter, make_report
from reportstold.signs import is_name, is_word
from reportstold.templates import Template, read_template

MOST_TEMPLATES = 8
MOST_ANSWERS = 60
MOST_VERSIONS = 6
MOST_SENT = 40

NO_SUCH_ONE = -1
WRONG_FORM = -2
NOT_STANDING = -3
NO_ROOM = -6
NOTHING_DUE = -8

# By a call's number: how many whole numbers it has, then how many rows.
# All 17 are here, so that a call which isn't built yet is stepped over rightly.
FORMS = (
    (0, 1), (3, 3), (2, 1), (1, 0), (4, 0), (1, 0), (1, 0), (1, 0), (0, 0),
    (2, 0), (1, 0), (3, 0), (1, 0), (1, 1), (2, 0), (2, 1), (0, 0),
)


class Call:
    def __init__(self, kind, numbers, rows, end):
        self.kind = kind
        self.numbers = numbers
        self.rows = rows
        self.end = end


def has_place(things, number):
    return 0 <= number < len(things)


def with_count(row):
    return [len(row)] + row


def add_template(laboratory, call):
    reading = read_template(call.rows[0])
    if reading.reason != 0:
        return [1, reading.wrong_line, reading.reason]
    if len(laboratory.templates) == MOST_TEMPLATES:
        return [NO_ROOM]
    laboratory.templates.append(Template(reading.settings, reading.parts))
    return [0, len(laboratory.templates) - 1]


def add_answer(laboratory, call):
    person = call.numbers[0]
    day = call.numbers[1]
    flag = call.numbers[2]
    test = call.rows[0]
    unit = call.rows[1]
    value = call.rows[2]
    if not (is_person(person) and is_day(day) and is_flag(flag)):
        return [NO_SUCH_ONE]
    if not (is_name(test) and is_word(unit) and is_word(value)):
        return [WRONG_FORM]
    number = len(laboratory.answers)
    if number == MOST_ANSWERS:
        return [NO_ROOM]
    answer = Answer(number, person, day, test, unit)
    answer.versions.append(Version(FINAL, flag, value))
    laboratory.answers.append(answer)
    return [0, number]


def correct_answer(laboratory, call):
    number = call.numbers[0]
    flag = call.numbers[1]
    value = call.rows[0]
    if not (has_place(laboratory.answers, number) and is_flag(flag)):
        return [NO_SUCH_ONE]
    if not is_word(value):
        return [WRONG_FORM]
    return add_version(laboratory.answers[number], Version(CORRECTED, flag, value))


def withdraw_answer(laboratory, call):
    number = call.numbers[0]
    if not has_place(laboratory.answers, number):
        return [NO_SUCH_ONE]
    return add_version(laboratory.answers[number], Version(WITHDRAWN, 0, []))


def add_version(answer, version):
    if not stands(answer):
        return [NOT_STANDING]
    if len(answer.versions) == MOST_VERSIONS:
        return [NO_ROOM]
    answer.versions.append(version)
    return [0, newest_number(answer)]


def issue_report(laboratory, call):
    number = call.numbers[0]
    person = call.numbers[1]
    day = call.numbers[2]
    reader = call.numbers[3]
    if not (has_place(laboratory.templates, number) and is_person(person) and is_day(day) and is_reader(reader)):
        return [NO_SUCH_ONE]
    if len(laboratory.sent) == MOST_SENT:
        return [NO_ROOM]
    report = make_report(laboratory, laboratory.templates[number], person, day, reader)
    laboratory.sent.append(report)
    return [0, len(laboratory.sent) - 1, report.pages]


def send_letter(laboratory, call):
    reader = call.numbers[0]
    if not is_reader(reader):
        return [NO_SUCH_ONE]
    letter = make_letter(laboratory, reader)
    if letter.told == {}:
        return [NOTHING_DUE]
    if len(laboratory.sent) == MOST_SENT:
        return [NO_ROOM]
    laboratory.sent.append(letter)
    return [0, len(laboratory.sent) - 1, len(letter.told)]


def show_sent(laboratory, call):
    number = call.numbers[0]
    if not has_place(laboratory.sent, number):
        return [NO_SUCH_ONE]
    return [0] + with_count(laboratory.sent[number].row)


def tell_about(laboratory, call):
    number = call.numbers[0]
    if not has_place(laboratory.sent, number):
        return [NO_SUCH_ONE]
    thing = laboratory.sent[number]
    row = [0, thing.kind, thing.reader, thing.person, thing.pages, len(thing.told)]
    for answer_number in sorted(thing.told):
        row.extend([answer_number, thing.told[answer_number]])
    return row


def list_duties(laboratory, call):
    duties = all_duties(laboratory)
    row = [0, len(duties)]
    for reader, answer_number in duties:
        row.extend([reader, answer_number])
    return row


BUILT_CALLS = (
    add_template, add_answer, correct_answer, withdraw_answer, issue_report,
    send_letter, show_sent, tell_about, list_duties,
)


def answer_call(laboratory, call):
    # The calls that aren't built yet change nothing, so the others are right beside them.
    if call.kind >= len(BUILT_CALLS):
        return []
    return BUILT_CALLS[call.kind](laboratory, call)


def read_call(calls, start):
    kind = calls[start]
    form = FORMS[kind]
    place = start + 1 + form[0]
    numbers = calls[start + 1:place]
    rows = []
    for step in range(form[1]):
        end = place + 1 + calls[place]
        rows.append(calls[place + 1:end])
        place = end
    return Call(kind, numbers, rows, place)


def answers(calls):
    laboratory = Laboratory()
    answered = []
    place = 0
    while place < len(calls):
        call = read_call(calls, place)
        answered.extend(with_count(answer_call(laboratory, call)))
        place = call.end
    return answered
