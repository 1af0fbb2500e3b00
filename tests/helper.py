"""Calls put together for tests, and answers taken apart."""

from tapesweep.desk import answers

TOP = 10 ** 18
BOTTOM = -10 ** 18

INPUT, CONSTANT, SUM, DIFFERENCE, PRODUCT, QUOTIENT, NEGATIVE = range(7)

# Input 0, input 1, line 2 = line 0 * line 1, line 3 = line 2 + line 0: the document's example.
EXAMPLE = [(INPUT, 0), (INPUT, 1), (PRODUCT, 0, 1), (SUM, 2, 0)]


def flat(rows):
    return [number for row in rows for number in row]


def code_of_numbers(n, numbers):
    return [0, n, len(numbers)] + list(numbers)


def code(n, lines):
    return code_of_numbers(n, flat(lines))


def point_of_numbers(numbers):
    return [1, len(numbers)] + list(numbers)


def point(*fractions):
    return point_of_numbers(flat(fractions))


def value(i):
    return [2, i]


def values():
    return [3]


def tape():
    return [4]


def gradient(i):
    return [5, i]


def pull_of_numbers(numbers):
    return [6, len(numbers)] + list(numbers)


def pull(*threes):
    return pull_of_numbers(flat(threes))


def split(told):
    """The answers, each a list, of what was given back for a list of calls."""
    parts = []
    at = 0
    while at < len(told):
        end = at + 1 + told[at]
        if told[at] < 1 or end > len(told):
            raise AssertionError("the lengths do not fit: %r" % (told,))
        parts.append(told[at + 1:end])
        at = end
    return parts


def ask(*calls):
    """One answer for each call; in passing, that answers leaves the list as it was."""
    numbers = flat(calls)
    kept = list(numbers)
    told = answers(numbers)
    if numbers != kept:
        raise AssertionError("the list of calls was changed")
    for number in told:
        if type(number) is not int:
            raise AssertionError("%r is no whole number" % (number,))
    parts = split(told)
    if len(parts) != len(calls):
        raise AssertionError("%d calls, %d answers" % (len(calls), len(parts)))
    return parts


def last(*calls):
    return ask(*calls)[-1]


def example_at_3_2():
    return [code(2, EXAMPLE), point((3, 1), (2, 1))]


# Two objects that refuse for want of a whole run: no point yet, and a division by 0 in line 1.
def without_point():
    return [code(1, [(INPUT, 0), (NEGATIVE, 0)])]


def with_fault():
    return [code(1, [(INPUT, 0), (QUOTIENT, 0, 0)]), point((0, 1))]
