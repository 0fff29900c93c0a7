"""Lines held against one another: which are both's, which are the first's or the second's alone."""

BOTH = 0
FIRST_ALONE = 1
SECOND_ALONE = 2


def hold_against(first_lines, second_lines):
    known = {}
    first = numbered(first_lines, known)
    second = numbered(second_lines, known)
    counts = common_counts(first, second)
    numbers = []
    place = 0
    other = 0
    while place < len(first) and other < len(second):
        if first[place] == second[other]:
            numbers.append(BOTH)
            place += 1
            other += 1
        elif counts[place + 1][other] >= counts[place][other + 1]:
            numbers.append(FIRST_ALONE)
            place += 1
        else:
            numbers.append(SECOND_ALONE)
            other += 1
    return numbers + [FIRST_ALONE] * (len(first) - place) + [SECOND_ALONE] * (len(second) - other)


# Each line is looked at beside each line of the other row, and whole numbers are held together sooner than lines.
def numbered(lines, known):
    numbers = []
    for line in lines:
        key = tuple(line)
        if key not in known:
            known[key] = len(known)
        numbers.append(known[key])
    return numbers


# At [place][other]: how many lines can be both's of what's left from these places on.
def common_counts(first, second):
    below = [0] * (len(second) + 1)
    counts = [below]
    for line in reversed(first):
        below = counts_above(line, second, below)
        counts.append(below)
    counts.reverse()
    return counts


def counts_above(line, second, below):
    counts = [0] * (len(second) + 1)
    behind = 0
    for other in range(len(second) - 1, -1, -1):
        if second[other] == line:
            behind = below[other + 1] + 1
        elif below[other] > behind:
            behind = below[other]
        counts[other] = behind
    return counts
