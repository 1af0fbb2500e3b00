"""Promises 3 to 6 beside an own calculation: forwards, one walk for each line, on many codes."""

import random
import unittest
from fractions import Fraction

from tests.helper import (ask, bits, code, flat, forwards, gradient, pairs, point, pull, some_code, some_straight_code,
                          tape, value, values)

CODES = 300


class Forwards(unittest.TestCase):
    def check(self, source, n, lines, told_point):
        """That all answers are as worked out forwards; which fault there was, or 0."""
        fault, results, owns, slopes = forwards(n, lines, [Fraction(*pair) for pair in told_point])
        threes = []
        if lines:
            threes = [(source.randrange(len(lines)), source.randint(-9, 9), source.randint(1, 9)) for k in range(5)]
        told = ask(code(n, lines), point(*told_point), values(), tape(), pull(*threes),
                   *[value(i) for i in range(len(lines))], *[gradient(i) for i in range(len(lines))])
        self.assertEqual(told[0], [len(lines)])
        if fault is not None:
            self.assertEqual(told[1], fault)
            self.assertEqual(told[2:], [[-5]] * (len(told) - 2))
            return fault[2]
        self.assertEqual(told[1], [0])
        self.assertEqual(told[2], [len(lines)] + pairs(results))
        self.assertEqual(told[3], [len(lines)] + [len(own) for own in owns] + pairs(flat(owns)))
        pulled = [sum((Fraction(a, b) * slopes[i][k] for i, a, b in threes), Fraction(0)) for k in range(n)]
        self.check_slope(told[4], n, pulled)
        for i in range(len(lines)):
            self.assertEqual(told[5 + i], [1] + pairs([results[i]]))
            self.check_slope(told[5 + len(lines) + i], n, slopes[i])
        return 0

    def check_slope(self, answer, n, slope):
        if any(bits(fraction) > 800 for fraction in slope):
            self.assertEqual(answer, [-6])
        else:
            self.assertEqual(answer, [n] + pairs(slope))

    def check_many(self, source, lengths, size):
        outcomes = []
        for k in range(CODES):
            n, lines = some_code(source, lengths, size)
            told_point = [(source.randint(-size, size), source.randint(1, size)) for k in range(n)]
            outcomes.append(self.check(source, n, lines, told_point))
        return [outcomes.count(fault) for fault in range(3)]

    def test_short_codes(self):
        whole, by_zero, heavy = self.check_many(random.Random(1), (0, 12), 9)
        self.assertGreater(whole, 100)
        self.assertGreater(by_zero, 10)

    def test_long_codes(self):
        whole, by_zero, heavy = self.check_many(random.Random(2), (15, 80), 10 ** 6)
        self.assertGreater(whole, 50)
        self.assertGreater(by_zero, 10)
        self.assertGreater(heavy, 50)

    def test_straight_codes_with_heavy_derivatives(self):
        source = random.Random(3)
        for k in range(20):
            n, lines = some_straight_code(source)
            self.assertEqual(self.check(source, n, lines, [(0, 1), (0, 1)]), 0)


if __name__ == "__main__":
    unittest.main()
