"""What the tests share: calls written with texts, and answers taken apart again."""

from reportstold.laboratory import answers

HUGE = 10 ** 18


def row(text):
    """A row of bytes behind its count; a text stands for its bytes."""
    numbers = list(text.encode("latin-1")) if isinstance(text, str) else list(text)
    return [len(numbers)] + numbers


def template(*lines):
    return template_text("".join(line + "\n" for line in lines))


def template_text(text):
    return [0] + row(text)


def answer(person, day, test, value, unit="u", flag=0):
    return [1, person, day, flag] + row(test) + row(unit) + row(value)


def correct(number, value, flag=0):
    return [2, number, flag] + row(value)


def withdraw(number):
    return [3, number]


def issue(number=0, person=1, day=100, reader=0):
    return [4, number, person, day, reader]


def letter(reader=0):
    return [5, reader]


def show(number):
    return [6, number]


def about(number):
    return [7, number]


def duties():
    return [8]


def told(reader, number):
    return [9, reader, number]


def versions(number):
    return [10, number]


def preview(number=0, person=1, day=100):
    return [11, number, person, day]


def printed(number=0):
    return [12, number]


def wrap(width, text):
    return [13, width] + row(text)


def diff(first, second):
    return [14, first, second]


def newest(person, day, test):
    return [15, person, day] + row(test)


def counts():
    return [16]


def run(*calls):
    """What each of the calls is answered, as one list each."""
    numbers = [number for call in calls for number in call]
    taken = taken_apart(answers(numbers))
    assert len(taken) == len(calls), (len(taken), len(calls))
    return taken


def taken_apart(numbers):
    taken = []
    place = 0
    while place < len(numbers):
        end = place + 1 + numbers[place]
        assert end <= len(numbers)
        taken.append(numbers[place + 1:end])
        place = end
    return taken


def text_of(shown):
    """The text of what show, preview or print answered."""
    assert shown[0] == 0 and shown[1] == len(shown) - 2, shown[:2]
    return bytes(shown[2:]).decode("latin-1")


def pages_of(text):
    """The lines of each page of a report's text."""
    assert text.endswith("\x0c\n"), text
    return [page.split("\n")[:-1] for page in text.split("\x0c\n")[:-1]]


def report(lines, *calls, person=1, day=100):
    """The pages of the report that a template of these lines gives behind the calls."""
    answered = run(*calls, template(*lines), issue(0, person, day), show(0))
    assert answered[-3] == [0, 0], answered[-3]
    pages = pages_of(text_of(answered[-1]))
    assert answered[-2] == [0, 0, len(pages)], answered[-2]
    return pages


def told_by(lines, *calls, person=1, day=100):
    """Answers and versions that such a report tells, as pairs."""
    answered = run(*calls, template(*lines), issue(0, person, day), about(0))[-1]
    pairs = list(zip(answered[6::2], answered[7::2]))
    assert answered[5] == len(pairs)
    return pairs
