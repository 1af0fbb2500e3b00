"""Exact fractions: tuples (numerator, denominator) in lowest terms, the denominator 1 or more."""

ZERO = (0, 1)
ONE = (1, 1)
MINUS_ONE = (-1, 1)


def common_divisor(first, second):
    """The greatest number that divides both; second is 1 or more."""
    while second != 0:
        rest = first % second
        first = second
        second = rest
    return first


def lowest(numerator, denominator):
    """The fraction of two whole numbers, the denominator 1 or more."""
    divisor = common_divisor(numerator, denominator)
    return (numerator // divisor, denominator // divisor)


def negative(fraction):
    return (-fraction[0], fraction[1])


def inverse(fraction):
    """1 over a fraction that isn't 0."""
    if fraction[0] < 0:
        return (-fraction[1], -fraction[0])
    return (fraction[1], fraction[0])


def plus(first, second):
    # Long fractions here mostly share much of their denominators. With that part taken out
    # first, the divisor is found in few steps, and what still divides the sum divides that part.
    shared = common_divisor(first[1], second[1])
    first_part = first[1] // shared
    numerator = first[0] * (second[1] // shared) + second[0] * first_part
    divisor = common_divisor(numerator, shared)
    return (numerator // divisor, first_part * (second[1] // divisor))


def minus(first, second):
    return plus(first, negative(second))


def times(first, second):
    # Both are in lowest terms, so a divisor can only lie crosswise; one short factor then
    # keeps the search for it short, however long the other has grown.
    falling = common_divisor(first[0], second[1])
    rising = common_divisor(second[0], first[1])
    numerator = (first[0] // falling) * (second[0] // rising)
    return (numerator, (first[1] // rising) * (second[1] // falling))


def over(first, second):
    """The quotient; second isn't 0."""
    return times(first, inverse(second))


def weight(fraction):
    """How many binary digits numerator and denominator have together."""
    return abs(fraction[0]).bit_length() + fraction[1].bit_length()


def read_fractions(numbers, count):
    """The fractions told by a row of numbers, or None where it isn't that many fractions."""
    if len(numbers) != 2 * count:
        return None
    fractions = []
    for at in range(0, len(numbers), 2):
        if numbers[at + 1] < 1:
            return None
        fractions.append(lowest(numbers[at], numbers[at + 1]))
    return fractions
