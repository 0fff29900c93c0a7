"""Words put into lines of a width."""

from reportstold.signs import BLANK, split_at


def cut_pieces(text, width):
    cut = []
    for piece in split_at(text, BLANK):
        for start in range(0, len(piece), width):
            cut.append(piece[start:start + width])
    return cut


def put_into_lines(text, width):
    lines = []
    line = []
    for piece in cut_pieces(text, width):
        if line == []:
            line = piece
        elif len(line) + 1 + len(piece) <= width:
            line = line + [BLANK] + piece
        else:
            lines.append(line)
            line = piece
    lines.append(line)
    return lines
