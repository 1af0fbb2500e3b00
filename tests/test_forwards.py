"""Promises 3 to 6 beside an own calculation: forwards, one walk for each line, on many codes."""

import random
import unittest
from fractions import Fraction

from tests.helper import (CONSTANT, DIFFERENCE, INPUT, NEGATIVE, PRODUCT, QUOTIENT, SUM,
                          ask, code, flat, gradient, point, pull, tape, value, values)

CODES = 300


def bits(fraction):
    return fraction.numerator.bit_length() + fraction.denominator.bit_length()


def pairs(fractions):
    return flat([(fraction.numerator, fraction.denominator) for fraction in fractions])


def work_out(line, results, at):
    """A line's value and its own derivatives."""
    kind = line[0]
    if kind == INPUT:
        return at[line[1]], []
    if kind == CONSTANT:
        return Fraction(line[1], line[2]), []
    a = results[line[1]]
    if kind == NEGATIVE:
        return -a, [Fraction(-1)]
    b = results[line[2]]
    if kind == SUM:
        return a + b, [Fraction(1), Fraction(1)]
    if kind == DIFFERENCE:
        return a - b, [Fraction(1), Fraction(-1)]
    if kind == PRODUCT:
        return a * b, [b, a]
    return a / b, [1 / b, -a / (b * b)]


def forwards(n, lines, at):
    """The fault's answer, or None; values; own derivatives; and each line's derivatives by the inputs."""
    results, owns, slopes = [], [], []
    for number, line in enumerate(lines):
        try:
            result, own = work_out(line, results, at)
        except ZeroDivisionError:
            return [1, number, 1], results, owns, slopes
        if bits(result) > 200:
            return [1, number, 2], results, owns, slopes
        slope = [Fraction(int(line[0] == INPUT and line[1] == k)) for k in range(n)]
        if own:
            for used, derivative in zip(line[1:], own):
                slope = [s + derivative * t for s, t in zip(slope, slopes[used])]
        results.append(result)
        owns.append(own)
        slopes.append(slope)
    return None, results, owns, slopes


def some_line(source, n, number, size):
    if number == 0 or source.randrange(5) == 0:
        if n > 0 and source.randrange(3) > 0:
            return (INPUT, source.randrange(n))
        return (CONSTANT, source.randint(-size, size), source.randint(1, size))
    kind = source.choice((SUM, SUM, DIFFERENCE, PRODUCT, QUOTIENT, NEGATIVE))
    used = [source.randrange(max(0, number - 6), number) for k in range(2)]
    return (kind, used[0]) if kind == NEGATIVE else (kind, used[0], used[1])


def some_code(source, lengths, size):
    """A number of inputs, and lines on them, with constants up to a size."""
    n = source.randint(0, 4)
    lines = []
    for number in range(source.randint(*lengths)):
        lines.append(some_line(source, n, number, size))
    return n, lines


def some_straight_code(source):
    """Two inputs, and lines that are 0 where these are: constants times lines, and sums of them."""
    lines = [(INPUT, 0), (INPUT, 1)] + [(CONSTANT, source.randint(-10 ** 18, 10 ** 18), 7 ** 20 + k) for k in range(3)]
    while len(lines) < 40:
        used = [source.choice([0, 1] + list(range(5, len(lines)))[-4:]) for k in range(2)]
        if source.randrange(2) == 0:
            lines.append((source.choice((SUM, DIFFERENCE)), used[0], used[1]))
        else:
            lines.append((source.choice((PRODUCT, QUOTIENT)), used[0], source.randint(2, 4)))
    return 2, lines


class Forwards(unittest.TestCase):
    def check(self, source, n, lines, told_point):
        """That all answers are as worked out forwards; which fault there was, or 0."""
        fault, results, owns, slopes = forwards(n, lines, [Fraction(*pair) for pair in told_point])
        threes = []
        if lines:
            threes = [(source.randrange(len(lines)), source.randint(-9, 9), source.randint(1, 9)) for k in range(5)]
        told = ask(code(n, lines), point(*told_point), values(), tape(), pull(*threes),
                   *[value(i) for i in range(len(lines))], *[gradient(i) for i in range(len(lines))])
        self.assertEqual(told[0], [len(lines)])
        if fault is not None:
            self.assertEqual(told[1], fault)
            self.assertEqual(told[2:], [[-5]] * (len(told) - 2))
            return fault[2]
        self.assertEqual(told[1], [0])
        self.assertEqual(told[2], [len(lines)] + pairs(results))
        self.assertEqual(told[3], [len(lines)] + [len(own) for own in owns] + pairs(flat(owns)))
        pulled = [sum((Fraction(a, b) * slopes[i][k] for i, a, b in threes), Fraction(0)) for k in range(n)]
        self.check_slope(told[4], n, pulled)
        for i in range(len(lines)):
            self.assertEqual(told[5 + i], [1] + pairs([results[i]]))
            self.check_slope(told[5 + len(lines) + i], n, slopes[i])
        return 0

    def check_slope(self, answer, n, slope):
        if any(bits(fraction) > 800 for fraction in slope):
            self.assertEqual(answer, [-6])
        else:
            self.assertEqual(answer, [n] + pairs(slope))

    def check_many(self, source, lengths, size):
        outcomes = []
        for k in range(CODES):
            n, lines = some_code(source, lengths, size)
            told_point = [(source.randint(-size, size), source.randint(1, size)) for k in range(n)]
            outcomes.append(self.check(source, n, lines, told_point))
        return [outcomes.count(fault) for fault in range(3)]

    def test_short_codes(self):
        whole, by_zero, heavy = self.check_many(random.Random(1), (0, 12), 9)
        self.assertGreater(whole, 100)
        self.assertGreater(by_zero, 10)

    def test_long_codes(self):
        whole, by_zero, heavy = self.check_many(random.Random(2), (15, 80), 10 ** 6)
        self.assertGreater(whole, 50)
        self.assertGreater(by_zero, 10)
        self.assertGreater(heavy, 50)

    def test_straight_codes_with_heavy_derivatives(self):
        source = random.Random(3)
        for k in range(20):
            n, lines = some_straight_code(source)
            self.assertEqual(self.check(source, n, lines, [(0, 1), (0, 1)]), 0)


if __name__ == "__main__":
    unittest.main()
