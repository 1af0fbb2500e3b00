"""Promises 5 to 12 on codes and points drawn at random: the calls agree with one another, and with sweeps and
eliminations gone through here step by step as the document tells them."""

import random
import unittest
from fractions import Fraction

from tests.helper import (CONSTANT, DIFFERENCE, INPUT, NEGATIVE, PRODUCT, QUOTIENT, SUM, along, ask, bits, code, cost,
                          eliminate, flat, forwards, gradient, greedy, pairs, point, pull, some_code, sums, sweep,
                          table)

CODES = 150

PRICE = {INPUT: 0, CONSTANT: 0, SUM: 2, DIFFERENCE: 2, PRODUCT: 4, QUOTIENT: 4, NEGATIVE: 1}


def told_or_refused(head, fractions):
    if any(bits(fraction) > 800 for fraction in fractions):
        return [-6]
    return head + pairs(fractions)


def walk_down(lines, owns, threes, k):
    """The sums when the lines from the last down to k are passed on, and what that cost."""
    totals = [Fraction(0)] * len(lines)
    for line, numerator, denominator in threes:
        totals[line] += Fraction(numerator, denominator)
    price = 0
    for number in reversed(range(k, len(lines))):
        if totals[number] != 0:
            price += PRICE[lines[number][0]]
            for used, own in zip(lines[number][1:], owns[number]):
                totals[used] += totals[number] * own
    return totals, price


def all_ways(lines, owns, outs):
    """The worth of each way, by where it comes from and where it leads: a line's number, or an end's text."""
    ways = {}
    for number, line in enumerate(lines):
        for used, own in zip(line[1:], owns[number]):
            ways[used, number] = ways.get((used, number), 0) + own
    for place, out in enumerate(outs):
        ways[out, "end %d" % place] = Fraction(1)
    return ways


def ways_at(ways, line):
    return [way for way in ways if way[1] == line], [way for way in ways if way[0] == line]


def take_out(ways, line):
    """How many products and how many sums it took."""
    added = 0
    coming, going = ways_at(ways, line)
    for before in coming:
        for after in going:
            through = (before[0], after[1])
            if through in ways:
                added += 1
            ways[through] = ways.get(through, 0) + ways[before] * ways[after]
    for way in coming + going:
        ways.pop(way)
    return len(coming) * len(going), added


def eliminated(n, lines, owns, outs, order):
    """Products, sums, and what's left."""
    ways = all_ways(lines, owns, outs)
    products = added = 0
    for line in order:
        counts = take_out(ways, line)
        products += counts[0]
        added += counts[1]
    left = [Fraction(0)] * (n * len(outs))
    for place in range(len(outs)):
        for (line, target), worth in ways.items():
            if target == "end %d" % place:
                left[n * place + lines[line][1]] += worth
    return products, added, left


def greedy_order(lines, owns, outs):
    ways = all_ways(lines, owns, outs)
    rest = [number for number, line in enumerate(lines) if line[0] != INPUT]
    order = []
    while rest:
        prices = []
        for line in rest:
            coming, going = ways_at(ways, line)
            prices.append((len(coming) * len(going), line))
        order.append(min(prices)[1])
        rest.remove(order[-1])
        take_out(ways, order[-1])
    return order


def some_threes(source, lines):
    if not lines:
        return []
    return [(source.randrange(len(lines)), source.randint(-3, 3), source.randint(1, 4))
            for k in range(source.randint(0, 6))]


def some_outs(source, lines):
    if not lines:
        return []
    return [source.randrange(len(lines)) for k in range(source.randint(0, 5))]


def some_orders(source, lines):
    rising = [number for number, line in enumerate(lines) if line[0] != INPUT]
    mixed = list(rising)
    source.shuffle(mixed)
    again = list(rising)
    source.shuffle(again)
    return [rising, rising[::-1], mixed, again]


def some_heavy_lines(source):
    """Lines that are 0 where the two inputs are, with derivatives that weigh some hundred more line by line."""
    constants = [(CONSTANT, source.randint(-10 ** 18, 10 ** 18), 7 ** 20 + k) for k in range(3)]
    lines = [(INPUT, 0), (INPUT, 1)] + constants + [(PRODUCT, 0, 2), (PRODUCT, 1, 3)]
    length = source.randint(16, 40)
    while len(lines) < length:
        count = len(lines)
        if source.randrange(3) == 0:
            lines.append((source.choice((SUM, DIFFERENCE)), count - 1, count - source.randint(1, 2)))
        else:
            lines.append((source.choice((PRODUCT, PRODUCT, QUOTIENT)), count - 1, source.randint(2, 4)))
    return lines


def several_kinds(source):
    """Codes of every sort with their points: short ones, long ones, and ones with heavy derivatives."""
    for k in range(CODES):
        n, lines = some_code(source, (0, 12), 3)
        yield n, lines, [(source.randint(-3, 3), source.randint(1, 3)) for j in range(n)]
    for k in range(CODES):
        n, lines = some_code(source, (15, 80), 2)
        yield n, lines, [(source.randint(-2, 2), 1) for j in range(n)]
    for k in range(60):
        yield 2, some_heavy_lines(source), [(0, 1), (0, 1)]


def whole_runs(source):
    """Those of them whose run has no fault, with the own derivatives and the derivatives by the inputs."""
    for n, lines, told_point in several_kinds(source):
        fault, results, owns, slopes = forwards(n, lines, [Fraction(*pair) for pair in told_point])
        if fault is None:
            yield n, lines, [code(n, lines), point(*told_point)], owns, slopes


class Drawn(unittest.TestCase):
    def test_enough_of_each_sort_is_drawn(self):
        runs = list(whole_runs(random.Random(10)))
        self.assertGreater(len([run for run in runs if len(run[1]) <= 12]), 80)
        self.assertGreater(len([run for run in runs if len(run[1]) > 12]), 40)
        self.assertGreater(len([run for run in runs if len(run[1]) > 40]), 15)
        self.assertGreater(len([run for run in runs if run[0] == 0]), 10)
        heavy = [run for run in runs if any(bits(fraction) > 800 for slope in run[4] for fraction in slope)]
        self.assertGreater(len(heavy), 10)

    def test_sums_sweep_and_cost(self):
        source = random.Random(11)
        for n, lines, start, owns, slopes in whole_runs(source):
            threes = some_threes(source, lines)
            steps = [sweep(k, *threes) for k in range(len(lines))]
            told = ask(*start, sums(*threes), cost(*threes), *steps)[2:]
            totals, price = walk_down(lines, owns, threes, 0)
            self.assertEqual(told[0], told_or_refused([len(lines)], totals))
            self.assertEqual(told[1], [len([own for own in owns if own]), price])
            for k in range(len(lines)):
                totals, price = walk_down(lines, owns, threes, k)
                self.assertEqual(told[2 + k], told_or_refused([len(lines)], totals))
            if lines:
                self.assertEqual(told[2], told[0])

    def test_table_and_along(self):
        source = random.Random(12)
        for n, lines, start, owns, slopes in whole_runs(source):
            outs = some_outs(source, lines)
            direction = [(source.randint(-3, 3), source.randint(1, 3)) for k in range(n)]
            told = ask(*start, table(*outs), *[along(out, *direction) for out in outs])[2:]
            self.assertEqual(told[0], told_or_refused([n * len(outs)], flat([slopes[out] for out in outs])))
            for out, answer in zip(outs, told[1:]):
                slope = sum((Fraction(*step) * part for step, part in zip(direction, slopes[out])), Fraction(0))
                self.assertEqual(answer, told_or_refused([1], [slope]))

    def test_pull_and_along_agree_with_gradient(self):
        source = random.Random(13)
        for n, lines, start, owns, slopes in whole_runs(source):
            ones = [[(int(j == k), 1) for j in range(n)] for k in range(n)]
            for i in some_outs(source, lines):
                told = ask(*start, gradient(i), pull((i, 1, 1)), *[along(i, *one) for one in ones])[2:]
                self.assertEqual(told[1], told[0])
                if told[0] == [-6]:
                    self.assertIn([-6], told[2:])
                else:
                    self.assertEqual([n] + flat([answer[1:] for answer in told[2:]]), told[0])

    def test_eliminate_in_several_orders(self):
        source = random.Random(14)
        for n, lines, start, owns, slopes in whole_runs(source):
            outs = some_outs(source, lines)
            orders = some_orders(source, lines)
            told = ask(*start, table(*outs), *[eliminate(outs, order) for order in orders])[2:]
            for order, answer in zip(orders, told[1:]):
                products, added, left = eliminated(n, lines, owns, outs, order)
                self.assertEqual(answer, told_or_refused([products, added], left))
                if told[0] == [-6]:
                    self.assertEqual(answer, [-6])
                else:
                    self.assertEqual(answer[2:], told[0][1:])

    def test_greedy(self):
        source = random.Random(15)
        for n, lines, start, owns, slopes in whole_runs(source):
            outs = some_outs(source, lines)
            order = greedy_order(lines, owns, outs)
            told = ask(*start, greedy(*outs), eliminate(outs, order))[2:]
            products, added, left = eliminated(n, lines, owns, outs, order)
            self.assertEqual(told[0], [products, added] + order)
            if told[1] != [-6]:
                self.assertEqual(told[1][:2], told[0][:2])


if __name__ == "__main__":
    unittest.main()
