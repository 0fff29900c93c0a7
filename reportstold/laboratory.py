"""The calls on one laboratory, handed in as one list of whole numbers and answered as one."""

from reportstold.comparing import hold_against
from reportstold.layout import lay_out
from reportstold.records import Answer, CORRECTED, FINAL, Laboratory, Version, WITHDRAWN
from reportstold.records import answer_of_test, file_of, newest_number, stands
from reportstold.records import is_day, is_flag, is_person, is_reader
from reportstold.sending import all_duties, due_numbers, make_letter, make_report, told_to
from reportstold.signs import ended_lines, is_name, is_plain, is_word, lines_of
from reportstold.templates import Template, printed_lines, read_template
from reportstold.wrapping import put_into_lines

MOST_TEMPLATES = 8
MOST_ANSWERS = 60
MOST_VERSIONS = 6
MOST_SENT = 40
GREATEST_WIDTH = 100

NO_SUCH_ONE = -1
WRONG_FORM = -2
NOT_STANDING = -3
NO_ROOM = -6
NOTHING_DUE = -8

# By a call's number: how many whole numbers it has, then how many rows.
FORMS = (
    (0, 1), (3, 3), (2, 1), (1, 0), (4, 0), (1, 0), (1, 0), (1, 0), (0, 0),
    (2, 0), (1, 0), (3, 0), (1, 0), (1, 1), (2, 0), (2, 1), (0, 0),
)


class Call:
    def __init__(self, kind, numbers, rows, end):
        self.kind = kind
        self.numbers = numbers
        self.rows = rows
        self.end = end


def has_place(things, number):
    return 0 <= number < len(things)


def with_count(row):
    return [len(row)] + row


def add_template(laboratory, call):
    reading = read_template(call.rows[0])
    if reading.reason != 0:
        return [1, reading.wrong_line, reading.reason]
    if len(laboratory.templates) == MOST_TEMPLATES:
        return [NO_ROOM]
    laboratory.templates.append(Template(reading.settings, reading.parts))
    return [0, len(laboratory.templates) - 1]


def add_answer(laboratory, call):
    person = call.numbers[0]
    day = call.numbers[1]
    flag = call.numbers[2]
    test = call.rows[0]
    unit = call.rows[1]
    value = call.rows[2]
    if not (is_person(person) and is_day(day) and is_flag(flag)):
        return [NO_SUCH_ONE]
    if not (is_name(test) and is_word(unit) and is_word(value)):
        return [WRONG_FORM]
    number = len(laboratory.answers)
    if number == MOST_ANSWERS:
        return [NO_ROOM]
    answer = Answer(number, person, day, test, unit)
    answer.versions.append(Version(FINAL, flag, value))
    laboratory.answers.append(answer)
    return [0, number]


def correct_answer(laboratory, call):
    number = call.numbers[0]
    flag = call.numbers[1]
    value = call.rows[0]
    if not (has_place(laboratory.answers, number) and is_flag(flag)):
        return [NO_SUCH_ONE]
    if not is_word(value):
        return [WRONG_FORM]
    return add_version(laboratory.answers[number], Version(CORRECTED, flag, value))


def withdraw_answer(laboratory, call):
    number = call.numbers[0]
    if not has_place(laboratory.answers, number):
        return [NO_SUCH_ONE]
    return add_version(laboratory.answers[number], Version(WITHDRAWN, 0, []))


def add_version(answer, version):
    if not stands(answer):
        return [NOT_STANDING]
    if len(answer.versions) == MOST_VERSIONS:
        return [NO_ROOM]
    answer.versions.append(version)
    return [0, newest_number(answer)]


def issue_report(laboratory, call):
    number = call.numbers[0]
    person = call.numbers[1]
    day = call.numbers[2]
    reader = call.numbers[3]
    if not (has_place(laboratory.templates, number) and is_person(person) and is_day(day) and is_reader(reader)):
        return [NO_SUCH_ONE]
    if len(laboratory.sent) == MOST_SENT:
        return [NO_ROOM]
    report = make_report(laboratory, laboratory.templates[number], person, day, reader)
    laboratory.sent.append(report)
    return [0, len(laboratory.sent) - 1, report.pages]


def send_letter(laboratory, call):
    reader = call.numbers[0]
    if not is_reader(reader):
        return [NO_SUCH_ONE]
    letter = make_letter(laboratory, reader)
    if letter.told == {}:
        return [NOTHING_DUE]
    if len(laboratory.sent) == MOST_SENT:
        return [NO_ROOM]
    laboratory.sent.append(letter)
    return [0, len(laboratory.sent) - 1, len(letter.told)]


def show_sent(laboratory, call):
    number = call.numbers[0]
    if not has_place(laboratory.sent, number):
        return [NO_SUCH_ONE]
    return [0] + with_count(laboratory.sent[number].row)


def tell_about(laboratory, call):
    number = call.numbers[0]
    if not has_place(laboratory.sent, number):
        return [NO_SUCH_ONE]
    thing = laboratory.sent[number]
    row = [0, thing.kind, thing.reader, thing.person, thing.pages, len(thing.told)]
    for answer_number in sorted(thing.told):
        row.extend([answer_number, thing.told[answer_number]])
    return row


def list_duties(laboratory, call):
    duties = all_duties(laboratory)
    row = [0, len(duties)]
    for reader, answer_number in duties:
        row.extend([reader, answer_number])
    return row


def tell_told(laboratory, call):
    reader = call.numbers[0]
    number = call.numbers[1]
    if not (is_reader(reader) and has_place(laboratory.answers, number)):
        return [NO_SUCH_ONE]
    told = told_to(laboratory, reader)
    if number not in told:
        return [0, 0]
    return [0, 1, told[number], 1 if number in due_numbers(laboratory, told) else 0]


def list_versions(laboratory, call):
    number = call.numbers[0]
    if not has_place(laboratory.answers, number):
        return [NO_SUCH_ONE]
    answer = laboratory.answers[number]
    row = [0, answer.person, answer.day] + with_count(answer.test) + with_count(answer.unit)
    row.append(len(answer.versions))
    for version in answer.versions:
        row.extend([version.status, version.flag] + with_count(version.value))
    return row


def preview_report(laboratory, call):
    number = call.numbers[0]
    person = call.numbers[1]
    day = call.numbers[2]
    if not (has_place(laboratory.templates, number) and is_person(person) and is_day(day)):
        return [NO_SUCH_ONE]
    return [0] + with_count(lay_out(laboratory.templates[number], laboratory.answers, person, day).row)


def print_template(laboratory, call):
    number = call.numbers[0]
    if not has_place(laboratory.templates, number):
        return [NO_SUCH_ONE]
    return [0] + with_count(ended_lines(printed_lines(laboratory.templates[number])))


def wrap_text(laboratory, call):
    width = call.numbers[0]
    text = call.rows[0]
    if not 1 <= width <= GREATEST_WIDTH:
        return [NO_SUCH_ONE]
    if not is_plain(text):
        return [WRONG_FORM]
    lines = put_into_lines(text, width)
    row = [0, len(lines)]
    for line in lines:
        row.extend(with_count(line))
    return row


def compare_sent(laboratory, call):
    number = call.numbers[0]
    other = call.numbers[1]
    if not (has_place(laboratory.sent, number) and has_place(laboratory.sent, other)):
        return [NO_SUCH_ONE]
    return [0] + with_count(hold_against(lines_of(laboratory.sent[number].row), lines_of(laboratory.sent[other].row)))


def find_newest(laboratory, call):
    person = call.numbers[0]
    day = call.numbers[1]
    test = call.rows[0]
    if not (is_person(person) and is_day(day)):
        return [NO_SUCH_ONE]
    if not is_name(test):
        return [WRONG_FORM]
    answer = answer_of_test(file_of(laboratory.answers, person, day), test)
    if answer is None:
        return [0, 0]
    return [0, 1, answer.number, newest_number(answer)]


def count_all(laboratory, call):
    counts = [len(laboratory.templates), len(laboratory.answers), len(laboratory.sent)]
    return [0] + counts + [len(all_duties(laboratory))]


# By a call's number: the function that answers it.
ANSWERED_BY = (
    add_template, add_answer, correct_answer, withdraw_answer, issue_report, send_letter, show_sent, tell_about,
    list_duties, tell_told, list_versions, preview_report, print_template, wrap_text, compare_sent, find_newest,
    count_all,
)


def answer_call(laboratory, call):
    return ANSWERED_BY[call.kind](laboratory, call)


def read_call(calls, start):
    kind = calls[start]
    form = FORMS[kind]
    place = start + 1 + form[0]
    numbers = calls[start + 1:place]
    rows = []
    for step in range(form[1]):
        end = place + 1 + calls[place]
        rows.append(calls[place + 1:end])
        place = end
    return Call(kind, numbers, rows, place)


def answers(calls):
    laboratory = Laboratory()
    answered = []
    place = 0
    while place < len(calls):
        call = read_call(calls, place)
        answered.extend(with_count(answer_call(laboratory, call)))
        place = call.end
    return answered
