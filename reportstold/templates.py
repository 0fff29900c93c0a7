"""Templates: a text is read into settings and parts, or told wrong by its first wrong line."""

from reportstold.signs import BLANK, CLOSING, OPENING
from reportstold.signs import is_digit, is_name, is_plain, known_text, lines_of, number_row, row_of, split_at

FIRST_WORDS = ("width", "lines", "head", "foot", "text", "row", "table", "blank", "if", "end")
SETTINGS = ("width", "lines", "head", "foot")
RANGES = {"width": (20, 100), "lines": (5, 60)}
MOST_NAMES = {"row": 1, "table": 6, "if": 1}
BARE_HOLES = ("person", "day", "page", "pages")
USUAL_WIDTH = 60
USUAL_LINES = 40
LONGEST_TEXT = 200
MOST_PARTS = 40
MOST_IFS = 4
ZERO = 48
NUMBER_SIGN = 35

NONE_OF_THESE = 1
SETTING_MISPLACED = 2
IF_UNPAIRED = 3
TOO_MANY_PARTS = 4


# A line that means something. Which of the last three values holds anything depends on the kind:
# number for width and lines, names for row, table and if, pieces for head, foot and text.
class Entry:
    def __init__(self, kind, line, number, names, pieces):
        self.kind = kind
        # Each kind has one written form alone, so the line as it came is also how it's printed.
        self.line = line
        self.number = number
        self.names = names
        self.pieces = pieces


class Template:
    def __init__(self, settings, parts):
        self.width = settings["width"].number if "width" in settings else USUAL_WIDTH
        self.lines = settings["lines"].number if "lines" in settings else USUAL_LINES
        # An empty head is a line of the page all the same, so none at all is None.
        self.head = settings.get("head")
        self.foot = settings.get("foot")
        self.parts = parts


class Reading:
    def __init__(self):
        self.settings = {}
        self.parts = []
        self.depth = 0
        self.wrong_line = 0
        self.reason = 0


def read_template(text):
    reading = Reading()
    lines = lines_of(text)
    for number, line in enumerate(lines, start=1):
        if means_something(line):
            read_entry(reading, number, read_line(line))
        if reading.reason != 0:
            return reading
    if reading.depth > 0:
        reading.wrong_line = len(lines) + 1
        reading.reason = IF_UNPAIRED
    return reading


def means_something(line):
    return line != [] and line[0] != NUMBER_SIGN


def read_entry(reading, number, entry):
    reason = reason_against(reading, entry)
    if reason != 0:
        reading.wrong_line = number
        reading.reason = reason
    elif entry.kind in SETTINGS:
        reading.settings[entry.kind] = entry
    else:
        reading.parts.append(entry)
        reading.depth = depth_behind(reading.depth, entry.kind)


def depth_behind(depth, kind):
    if kind == "if":
        return depth + 1
    if kind == "end":
        return depth - 1
    return depth


def reason_against(reading, entry):
    if entry is None:
        return NONE_OF_THESE
    part_count = len(reading.parts)
    if entry.kind in SETTINGS:
        misplaced = entry.kind in reading.settings or part_count > 0
        return SETTING_MISPLACED if misplaced else 0
    if entry.kind == "end" and reading.depth == 0:
        return IF_UNPAIRED
    if entry.kind == "if" and reading.depth == MOST_IFS:
        return IF_UNPAIRED
    return TOO_MANY_PARTS if part_count == MOST_PARTS else 0


# Gives None for a line that is none of those a template may have.
def read_line(line):
    words = split_at(line, BLANK)
    kind = known_text(words[0], FIRST_WORDS)
    behind = words[1:]
    if kind in RANGES:
        return read_number_line(kind, line, behind)
    if kind in MOST_NAMES:
        return read_names_line(kind, line, behind)
    if kind in ("head", "foot", "text"):
        return read_text_line(kind, line)
    if kind in ("blank", "end") and behind == []:
        return Entry(kind, line, 0, [], [])
    return None


def read_number_line(kind, line, behind):
    if len(behind) != 1:
        return None
    number = written_number(behind[0])
    bounds = RANGES[kind]
    if not bounds[0] <= number <= bounds[1]:
        return None
    return Entry(kind, line, number, [], [])


# Gives -1, which is out of every range, for what is no number in its one right form.
def written_number(digits):
    if not 1 <= len(digits) <= 3 or digits[0] == ZERO or not all([is_digit(byte) for byte in digits]):
        return -1
    number = 0
    for byte in digits:
        number = number * 10 + byte - ZERO
    return number


def read_names_line(kind, line, behind):
    if not 1 <= len(behind) <= MOST_NAMES[kind] or not all([is_name(word) for word in behind]):
        return None
    return Entry(kind, line, 0, behind, [])


def read_text_line(kind, line):
    size = len(kind)
    if len(line) == size:
        return None
    pieces = text_pieces(line[size + 1:])
    if pieces is None:
        return None
    return Entry(kind, line, 0, [], pieces)


# The pieces are pairs of a kind and a row: plain bytes, or a hole with its name, if it has one.
def text_pieces(text):
    if len(text) > LONGEST_TEXT or not is_plain(text):
        return None
    sections = split_at(text, OPENING)
    if CLOSING in sections[0]:
        return None
    pieces = [("plain", sections[0])]
    for section in sections[1:]:
        halves = split_at(section, CLOSING)
        hole = read_hole(halves[0])
        if len(halves) != 2 or hole is None:
            return None
        pieces.append(hole)
        pieces.append(("plain", halves[1]))
    return pieces


def read_hole(inside):
    kind = known_text(inside, BARE_HOLES)
    if kind != "":
        return (kind, [])
    front = row_of("value ")
    name = inside[len(front):]
    if inside[:len(front)] == front and is_name(name):
        return ("value", name)
    return None


def printed_lines(template):
    lines = [row_of("width ") + number_row(template.width), row_of("lines ") + number_row(template.lines)]
    for entry in (template.head, template.foot):
        if entry is not None:
            lines.append(entry.line)
    return lines + [part.line for part in template.parts]
