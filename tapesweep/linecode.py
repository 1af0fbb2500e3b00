"""Line code: each line is a tuple of its kind and the numbers it is told with."""

INPUT = 0
CONSTANT = 1
SUM = 2
DIFFERENCE = 3
PRODUCT = 4
QUOTIENT = 5
NEGATIVE = 6

NUMBERS_BEHIND_KIND = (1, 2, 2, 2, 2, 2, 1)


def well_formed(line):
    if line[0] == CONSTANT:
        return line[2] >= 1
    return min(line[1:]) >= 0


def read_lines(numbers):
    """The lines told by a row of numbers, or None where it isn't lines one behind the other."""
    lines = []
    at = 0
    while at < len(numbers):
        kind = numbers[at]
        if kind < INPUT or kind > NEGATIVE:
            return None
        end = at + 1 + NUMBERS_BEHIND_KIND[kind]
        if end > len(numbers):
            return None
        line = tuple(numbers[at:end])
        if not well_formed(line):
            return None
        lines.append(line)
        at = end
    return lines


def is_operation(line):
    return line[0] != INPUT and line[0] != CONSTANT


def lines_used(line):
    """The numbers of the lines that a line uses, in the order in which they stand in it."""
    if not is_operation(line):
        return []
    return list(line[1:])


def uses_are_sound(lines, inputs):
    """Whether each line uses earlier lines alone, and inputs that are there."""
    for number, line in enumerate(lines):
        if line[0] == INPUT and line[1] >= inputs:
            return False
        for used in lines_used(line):
            if used >= number:
                return False
    return True
