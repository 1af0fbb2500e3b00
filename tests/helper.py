"""Calls put together for tests, answers taken apart, and codes drawn and worked out forwards."""

from fractions import Fraction

from tapesweep.desk import answers

TOP = 10 ** 18
BOTTOM = -10 ** 18

INPUT, CONSTANT, SUM, DIFFERENCE, PRODUCT, QUOTIENT, NEGATIVE = range(7)

# Input 0, input 1, line 2 = line 0 * line 1, line 3 = line 2 + line 0: the document's example.
EXAMPLE = [(INPUT, 0), (INPUT, 1), (PRODUCT, 0, 1), (SUM, 2, 0)]


def flat(rows):
    return [number for row in rows for number in row]


def code_of_numbers(n, numbers):
    return [0, n, len(numbers)] + list(numbers)


def code(n, lines):
    return code_of_numbers(n, flat(lines))


def point_of_numbers(numbers):
    return [1, len(numbers)] + list(numbers)


def point(*fractions):
    return point_of_numbers(flat(fractions))


def value(i):
    return [2, i]


def values():
    return [3]


def tape():
    return [4]


def gradient(i):
    return [5, i]


def pull_of_numbers(numbers):
    return [6, len(numbers)] + list(numbers)


def pull(*threes):
    return pull_of_numbers(flat(threes))


def sums_of_numbers(numbers):
    return [7, len(numbers)] + list(numbers)


def sums(*threes):
    return sums_of_numbers(flat(threes))


def sweep_of_numbers(k, numbers):
    return [8, k, len(numbers)] + list(numbers)


def sweep(k, *threes):
    return sweep_of_numbers(k, flat(threes))


def cost_of_numbers(numbers):
    return [9, len(numbers)] + list(numbers)


def cost(*threes):
    return cost_of_numbers(flat(threes))


def table(*outs):
    return [10, len(outs)] + list(outs)


def along_of_numbers(i, numbers):
    return [11, i, len(numbers)] + list(numbers)


def along(i, *fractions):
    return along_of_numbers(i, flat(fractions))


def eliminate(outs, order):
    return [12, len(outs)] + list(outs) + [len(order)] + list(order)


def greedy(*outs):
    return [13, len(outs)] + list(outs)


def split(told):
    """The answers, each a list, of what was given back for a list of calls."""
    parts = []
    at = 0
    while at < len(told):
        end = at + 1 + told[at]
        if told[at] < 1 or end > len(told):
            raise AssertionError("the lengths do not fit: %r" % (told,))
        parts.append(told[at + 1:end])
        at = end
    return parts


def ask(*calls):
    """One answer for each call; in passing, that answers leaves the list as it was."""
    numbers = flat(calls)
    kept = list(numbers)
    told = answers(numbers)
    if numbers != kept:
        raise AssertionError("the list of calls was changed")
    for number in told:
        if type(number) is not int:
            raise AssertionError("%r is no whole number" % (number,))
    parts = split(told)
    if len(parts) != len(calls):
        raise AssertionError("%d calls, %d answers" % (len(calls), len(parts)))
    return parts


def last(*calls):
    return ask(*calls)[-1]


def example_at_3_2():
    return [code(2, EXAMPLE), point((3, 1), (2, 1))]


# Two objects that refuse for want of a whole run: no point yet, and a division by 0 in line 1.
def without_point():
    return [code(1, [(INPUT, 0), (NEGATIVE, 0)])]


def with_fault():
    return [code(1, [(INPUT, 0), (QUOTIENT, 0, 0)]), point((0, 1))]


def heavy_code(last_factor):
    """Input 0 (which is to be 0) times 2^198 four times over, times a last factor."""
    powers = [(INPUT, 0), (CONSTANT, 2 ** 59, 1), (PRODUCT, 1, 1), (PRODUCT, 2, 1), (CONSTANT, 2 ** 21, 1),
              (PRODUCT, 3, 4), last_factor]
    return powers + [(PRODUCT, 0, 5), (PRODUCT, 7, 5), (PRODUCT, 8, 5), (PRODUCT, 9, 5), (PRODUCT, 10, 6)]


def there_and_back():
    """Input 0 (which is to be 0) by 2^198 five times over, then times it as often; the derivative of
    line 15 is 1, but the sums and ways between weigh up to 990."""
    powers = [(INPUT, 0), (CONSTANT, 2 ** 59, 1), (PRODUCT, 1, 1), (PRODUCT, 2, 1), (CONSTANT, 2 ** 21, 1),
              (PRODUCT, 3, 4)]
    down = [(QUOTIENT, 0 if k == 6 else k - 1, 5) for k in range(6, 11)]
    up = [(PRODUCT, k - 1, 5) for k in range(11, 16)]
    return powers + down + up


def bits(fraction):
    return fraction.numerator.bit_length() + fraction.denominator.bit_length()


def pairs(fractions):
    return flat([(fraction.numerator, fraction.denominator) for fraction in fractions])


def work_out(line, results, at):
    """A line's value and its own derivatives."""
    kind = line[0]
    if kind == INPUT:
        return at[line[1]], []
    if kind == CONSTANT:
        return Fraction(line[1], line[2]), []
    a = results[line[1]]
    if kind == NEGATIVE:
        return -a, [Fraction(-1)]
    b = results[line[2]]
    if kind == SUM:
        return a + b, [Fraction(1), Fraction(1)]
    if kind == DIFFERENCE:
        return a - b, [Fraction(1), Fraction(-1)]
    if kind == PRODUCT:
        return a * b, [b, a]
    return a / b, [1 / b, -a / (b * b)]


def forwards(n, lines, at):
    """The fault's answer, or None; values; own derivatives; and each line's derivatives by the inputs."""
    results, owns, slopes = [], [], []
    for number, line in enumerate(lines):
        try:
            result, own = work_out(line, results, at)
        except ZeroDivisionError:
            return [1, number, 1], results, owns, slopes
        if bits(result) > 200:
            return [1, number, 2], results, owns, slopes
        slope = [Fraction(int(line[0] == INPUT and line[1] == k)) for k in range(n)]
        if own:
            for used, derivative in zip(line[1:], own):
                slope = [s + derivative * t for s, t in zip(slope, slopes[used])]
        results.append(result)
        owns.append(own)
        slopes.append(slope)
    return None, results, owns, slopes


def some_line(source, n, number, size):
    if number == 0 or source.randrange(5) == 0:
        if n > 0 and source.randrange(3) > 0:
            return (INPUT, source.randrange(n))
        return (CONSTANT, source.randint(-size, size), source.randint(1, size))
    kind = source.choice((SUM, SUM, DIFFERENCE, PRODUCT, QUOTIENT, NEGATIVE))
    used = [source.randrange(max(0, number - 6), number) for k in range(2)]
    return (kind, used[0]) if kind == NEGATIVE else (kind, used[0], used[1])


def some_code(source, lengths, size):
    """A number of inputs, and lines on them, with constants up to a size."""
    n = source.randint(0, 4)
    lines = []
    for number in range(source.randint(*lengths)):
        lines.append(some_line(source, n, number, size))
    return n, lines


def some_straight_code(source):
    """Two inputs, and lines that are 0 where these are: constants times lines, and sums of them."""
    lines = [(INPUT, 0), (INPUT, 1)] + [(CONSTANT, source.randint(-10 ** 18, 10 ** 18), 7 ** 20 + k) for k in range(3)]
    while len(lines) < 40:
        used = [source.choice([0, 1] + list(range(5, len(lines)))[-4:]) for k in range(2)]
        if source.randrange(2) == 0:
            lines.append((source.choice((SUM, DIFFERENCE)), used[0], used[1]))
        else:
            lines.append((source.choice((PRODUCT, QUOTIENT)), used[0], source.randint(2, 4)))
    return 2, lines
