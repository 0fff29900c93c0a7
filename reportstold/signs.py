"""Rows of bytes: a byte is a whole number from 0 to 255, a row is a list of them."""

LINE_END = 10
PAGE_END = 12
BLANK = 32
FIRST_SIGN = 32
LAST_SIGN = 126
OPENING = 123
CLOSING = 125
LONGEST_NAME = 8
LONGEST_WORD = 12


def row_of(text):
    return [ord(sign) for sign in text]


def number_row(number):
    return row_of(str(number))


# Rows can't be looked up in a dict, so the text that a row spells is searched for.
def known_text(row, texts):
    for text in texts:
        if row == row_of(text):
            return text
    return ""


def split_at(row, byte):
    pieces = []
    start = 0
    for place, each in enumerate(row):
        if each == byte:
            pieces.append(row[start:place])
            start = place + 1
    pieces.append(row[start:])
    return pieces


def lines_of(row):
    lines = split_at(row, LINE_END)
    # The last line's end begins no further line.
    if lines[-1] == []:
        lines.pop()
    return lines


def ended_lines(lines):
    row = []
    for line in lines:
        row.extend(line)
        row.append(LINE_END)
    return row


def filled_up(row, size):
    return row + [BLANK] * (size - len(row))


def without_end_blanks(row):
    size = len(row)
    while size > 0 and row[size - 1] == BLANK:
        size -= 1
    return row[:size]


def is_letter(byte):
    return 65 <= byte <= 90 or 97 <= byte <= 122


def is_digit(byte):
    return 48 <= byte <= 57


def is_name(row):
    if not 1 <= len(row) <= LONGEST_NAME or not is_letter(row[0]):
        return False
    return all([is_letter(byte) or is_digit(byte) for byte in row])


def is_word_sign(byte):
    return BLANK < byte <= LAST_SIGN and byte != OPENING and byte != CLOSING


def is_word(row):
    return 1 <= len(row) <= LONGEST_WORD and all([is_word_sign(byte) for byte in row])


def is_plain(row):
    return all([FIRST_SIGN <= byte <= LAST_SIGN for byte in row])
