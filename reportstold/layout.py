"""A template laid out for a person's file by a day: its bytes, its pages, the answers it shows."""

from reportstold.records import answer_of_test, answer_of_test_on, days_of_tests, file_of
from reportstold.records import newest_number, newest_version, shown_value
from reportstold.signs import LINE_END, PAGE_END
from reportstold.signs import ended_lines, filled_up, number_row, row_of, without_end_blanks
from reportstold.wrapping import put_into_lines

NAME_SIZE = 10
VALUE_SIZE = 14
UNIT_SIZE = 12
DAY_SIZE = 10
CELL_SIZE = 15
TABLE_DAYS = 5


class Layout:
    def __init__(self, person, day, filed):
        self.person = person
        self.day = day
        self.filed = filed
        self.row = []
        self.pages = 0
        # From the number of each answer shown to its newest version's number.
        self.shown = {}


def lay_out(template, answers, person, day):
    layout = Layout(person, day, file_of(answers, person, day))
    body = body_lines(layout, template)
    room = page_room(template)
    layout.pages = max(1, (len(body) + room - 1) // room)
    for page in range(layout.pages):
        lines = page_lines(layout, template, body[page * room:(page + 1) * room], page + 1)
        layout.row.extend(ended_lines([without_end_blanks(line) for line in lines]))
        layout.row.extend([PAGE_END, LINE_END])
    return layout


def page_room(template):
    room = template.lines
    if template.head is not None:
        room -= 1
    if template.foot is not None:
        room -= 1
    return room


def page_lines(layout, template, portion, page):
    lines = list(portion)
    number = number_row(page)
    count = number_row(layout.pages)
    if template.head is not None:
        lines.insert(0, fill_holes(layout, template.head.pieces, number, count)[:template.width])
    if template.foot is not None:
        lines.append(fill_holes(layout, template.foot.pieces, number, count)[:template.width])
    return lines


def body_lines(layout, template):
    lines = []
    for part in counting_parts(layout, template):
        lines.extend(part_lines(layout, part, template.width))
    return lines


def counting_parts(layout, template):
    counting = []
    conditions = []
    for part in template.parts:
        if part.kind == "if":
            conditions.append(answer_of_test(layout.filed, part.names[0]) is not None)
        elif part.kind == "end":
            conditions.pop()
        elif all(conditions):
            counting.append(part)
    return counting


def part_lines(layout, part, width):
    if part.kind == "text":
        unknown = row_of("?")
        return put_into_lines(fill_holes(layout, part.pieces, unknown, unknown), width)
    if part.kind == "row":
        return [row_line(layout, part.names[0])[:width]]
    if part.kind == "table":
        return [line[:width] for line in table_lines(layout, part.names)]
    return [[]]


def row_line(layout, name):
    line = filled_up(name, NAME_SIZE)
    answer = answer_of_test(layout.filed, name)
    if answer is None:
        return line + row_of("none")
    value = filled_up(show_value(layout, answer), VALUE_SIZE)
    return line + value + filled_up(answer.unit, UNIT_SIZE) + row_of("day ") + number_row(answer.day)


def table_lines(layout, names):
    heading = filled_up(row_of("day"), DAY_SIZE)
    for name in names:
        heading.extend(filled_up(name, CELL_SIZE))
    lines = [heading]
    for day in days_of_tests(layout.filed, names)[-TABLE_DAYS:]:
        lines.append(table_line(layout, names, day))
    return lines


def table_line(layout, names, day):
    line = filled_up(number_row(day), DAY_SIZE)
    for name in names:
        answer = answer_of_test_on(layout.filed, name, day)
        cell = row_of("-") if answer is None else show_value(layout, answer)
        line.extend(filled_up(cell, CELL_SIZE))
    return line


def fill_holes(layout, pieces, page, pages):
    fillings = {"person": number_row(layout.person), "day": number_row(layout.day), "page": page, "pages": pages}
    filled = []
    for kind, row in pieces:
        if kind == "plain":
            filled.extend(row)
        elif kind == "value":
            filled.extend(value_of_test(layout, row))
        else:
            filled.extend(fillings[kind])
    return filled


def value_of_test(layout, name):
    answer = answer_of_test(layout.filed, name)
    return row_of("none") if answer is None else show_value(layout, answer)


# Every value that a layout has goes through here, so that what it tells can't fall short of what it shows.
def show_value(layout, answer):
    layout.shown[answer.number] = newest_number(answer)
    return shown_value(newest_version(answer))
