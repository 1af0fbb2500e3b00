"""Running line code at a point, and the own derivatives of lines that have been run."""

from tapesweep.fraction import MINUS_ONE
from tapesweep.fraction import ONE
from tapesweep.fraction import ZERO
from tapesweep.fraction import inverse
from tapesweep.fraction import lowest
from tapesweep.fraction import minus
from tapesweep.fraction import negative
from tapesweep.fraction import over
from tapesweep.fraction import plus
from tapesweep.fraction import times
from tapesweep.fraction import weight
from tapesweep.linecode import CONSTANT
from tapesweep.linecode import DIFFERENCE
from tapesweep.linecode import INPUT
from tapesweep.linecode import NEGATIVE
from tapesweep.linecode import PRODUCT
from tapesweep.linecode import QUOTIENT
from tapesweep.linecode import SUM

NO_FAULT = 0
DIVISION_BY_ZERO = 1
VALUE_TOO_HEAVY = 2

MOST_VALUE_WEIGHT = 200


def line_value(line, results, point):
    """The value of a line from the results of those before it, or None for a division by 0."""
    kind = line[0]
    if kind == INPUT:
        return point[line[1]]
    if kind == CONSTANT:
        return lowest(line[1], line[2])
    first = results[line[1]]
    if kind == NEGATIVE:
        return negative(first)
    second = results[line[2]]
    if kind == SUM:
        return plus(first, second)
    if kind == DIFFERENCE:
        return minus(first, second)
    if kind == PRODUCT:
        return times(first, second)
    if second == ZERO:
        return None
    return over(first, second)


def run(lines, point):
    """The fault's number, and the results of the lines ahead of it: as many as its line's number."""
    results = []
    for line in lines:
        value = line_value(line, results, point)
        if value is None:
            return (DIVISION_BY_ZERO, results)
        if weight(value) > MOST_VALUE_WEIGHT:
            return (VALUE_TOO_HEAVY, results)
        results.append(value)
    return (NO_FAULT, results)


def own_derivatives(line, value, results):
    """A line's derivatives by the lines that it uses, in the order in which they stand in it."""
    kind = line[0]
    if kind == SUM:
        return [ONE, ONE]
    if kind == DIFFERENCE:
        return [ONE, MINUS_ONE]
    if kind == PRODUCT:
        return [results[line[2]], results[line[1]]]
    if kind == QUOTIENT:
        share = inverse(results[line[2]])
        return [share, negative(times(value, share))]
    if kind == NEGATIVE:
        return [MINUS_ONE]
    return []


def make_tape(lines, results):
    """The own derivatives of each line of a run that has no fault."""
    return [own_derivatives(line, value, results) for line, value in zip(lines, results)]
