"""What the laboratory keeps: answers with their versions, and a person's file by a day."""

from reportstold.signs import row_of

FINAL = 0
CORRECTED = 1
WITHDRAWN = 2
FLAG_SIGNS = ("", " L", " H", " !")
READERS = 20
GREATEST_PERSON = 1000000000
LAST_DAY = 100000


class Laboratory:
    def __init__(self):
        self.templates = []
        self.answers = []
        self.sent = []


class Version:
    def __init__(self, status, flag, value):
        self.status = status
        self.flag = flag
        self.value = value


class Answer:
    def __init__(self, number, person, day, test, unit):
        self.number = number
        self.person = person
        self.day = day
        self.test = test
        self.unit = unit
        self.versions = []


def is_person(number):
    return 1 <= number <= GREATEST_PERSON


def is_day(number):
    return 0 <= number <= LAST_DAY


def is_reader(number):
    return 0 <= number < READERS


def is_flag(number):
    return 0 <= number < len(FLAG_SIGNS)


def newest_number(answer):
    return len(answer.versions) - 1


def newest_version(answer):
    return answer.versions[-1]


def stands(answer):
    return newest_version(answer).status != WITHDRAWN


def shown_value(version):
    return version.value + row_of(FLAG_SIGNS[version.flag])


def file_of(answers, person, day):
    return [answer for answer in answers if answer.person == person and answer.day <= day and stands(answer)]


# Answers come in the order of their numbers, so of one day the last one seen is the best.
def best_answer(answers):
    best = None
    for answer in answers:
        if best is None or answer.day >= best.day:
            best = answer
    return best


def answer_of_test(filed, test):
    return best_answer([answer for answer in filed if answer.test == test])


def answer_of_test_on(filed, test, day):
    return best_answer([answer for answer in filed if answer.test == test and answer.day == day])


def days_of_tests(filed, tests):
    return sorted(set([answer.day for answer in filed if answer.test in tests]))
