"""Promise 11: eliminate."""

import itertools
import unittest

from tests.helper import (BOTTOM, CONSTANT, DIFFERENCE, INPUT, NEGATIVE, PRODUCT, QUOTIENT, SUM, TOP, ask, code,
                          eliminate, example_at_3_2, heavy_code, last, point, table, there_and_back, values,
                          with_fault, without_point)


class Counts(unittest.TestCase):
    def test_the_example(self):
        self.assertEqual(last(*example_at_3_2(), eliminate([3], [2, 3])), [4, 1, 3, 1, 3, 1])

    def test_the_example_backwards(self):
        self.assertEqual(last(*example_at_3_2(), eliminate([3], [3, 2])), [4, 1, 3, 1, 3, 1])

    def test_an_end_for_each_out_that_is_told(self):
        # With line 2 first: 2 products and the sum for 0 to 3, then 2 times 2 products for the two ends.
        self.assertEqual(last(*example_at_3_2(), eliminate([3, 3], [2, 3])), [6, 1] + [3, 1, 3, 1] * 2)
        # With line 3 first: 2 times 2 products; then as many for line 2, and a sum for 0 to each end.
        self.assertEqual(last(*example_at_3_2(), eliminate([3, 3], [3, 2])), [8, 2] + [3, 1, 3, 1] * 2)

    def test_several_outs_in_any_order(self):
        told = ask(*example_at_3_2(), eliminate([2, 3], [2, 3]), eliminate([3, 2], [2, 3]), eliminate([2, 3], [3, 2]))
        self.assertEqual(told[2:], [[6, 1, 2, 1, 3, 1, 3, 1, 3, 1],
                                    [6, 1, 3, 1, 3, 1, 2, 1, 3, 1],
                                    [6, 1, 2, 1, 3, 1, 3, 1, 3, 1]])

    def test_orders_at_another_price(self):
        # Twelve outs behind a chain: in front of it one input, so the last line goes last at best.
        lines = [(INPUT, 0), (NEGATIVE, 0), (NEGATIVE, 1), (NEGATIVE, 2)]
        outs = [3] * 12
        told = ask(code(1, lines), point((1, 1)), eliminate(outs, [1, 2, 3]), eliminate(outs, [2, 1, 3]),
                   eliminate(outs, [2, 3, 1]), eliminate(outs, [3, 2, 1]))
        self.assertEqual([answer[:2] for answer in told[2:]], [[14, 0], [14, 0], [25, 0], [36, 0]])
        self.assertEqual([answer[2:] for answer in told[2:]], [[-1, 1] * 12] * 4)

    def test_many_inputs_in_front(self):
        # The sum of four inputs, negated twice: here the backward order is the cheap one.
        lines = [(INPUT, k) for k in range(4)] + [(SUM, 0, 1), (SUM, 4, 2), (SUM, 5, 3), (NEGATIVE, 6), (NEGATIVE, 7)]
        ones = point(*[(1, 1)] * 4)
        told = ask(code(4, lines), ones, eliminate([8], [4, 5, 6, 7, 8]), eliminate([8], [8, 7, 6, 5, 4]))
        self.assertEqual(told[2:], [[2 + 3 + 4 + 4 + 4, 0] + [1, 1] * 4, [1 + 1 + 2 + 2 + 2, 0] + [1, 1] * 4])

    def test_a_line_with_several_ways_from_it(self):
        # Line 1 is used by lines 2 and 3, line 4 adds these: taken out first, line 1 makes two ways.
        lines = [(INPUT, 0), (NEGATIVE, 0), (NEGATIVE, 1), (NEGATIVE, 1), (SUM, 2, 3)]
        told = ask(code(1, lines), point((1, 1)), eliminate([4], [1, 2, 3, 4]), eliminate([4], [2, 3, 1, 4]),
                   eliminate([4], [4, 3, 2, 1]))
        self.assertEqual(told[2:], [[5, 1, 2, 1], [4, 1, 2, 1], [5, 1, 2, 1]])

    def test_each_kind_of_line(self):
        for line, left in (((SUM, 0, 1), [1, 1, 1, 1]), ((DIFFERENCE, 0, 1), [1, 1, -1, 1]),
                           ((PRODUCT, 0, 1), [-5, 7, 3, 2]), ((QUOTIENT, 0, 1), [-7, 5, -147, 50])):
            with self.subTest(line=line):
                lines = [(INPUT, 0), (INPUT, 1), line]
                self.assertEqual(last(code(2, lines), point((3, 2), (-5, 7)), eliminate([2], [2])), [2, 0] + left)
        negative = last(code(2, [(INPUT, 1), (NEGATIVE, 0)]), point((3, 2), (-5, 7)), eliminate([1], [1]))
        self.assertEqual(negative, [1, 0, 0, 1, -1, 1])

    def test_adding_lines_of_one_input_counts_for_nothing(self):
        lines = [(INPUT, 0), (INPUT, 0), (PRODUCT, 0, 1)]
        self.assertEqual(last(code(1, lines), point((5, 1)), eliminate([2], [2])), [2, 0, 10, 1])

    def test_an_input_that_no_line_is(self):
        lines = [(INPUT, 2), (NEGATIVE, 0)]
        told = last(code(3, lines), point((1, 1), (2, 1), (3, 1)), eliminate([1, 0], [1]))
        self.assertEqual(told, [1, 0, 0, 1, 0, 1, -1, 1, 0, 1, 0, 1, 1, 1])


class OneLineInBothPlaces(unittest.TestCase):
    def told(self, kind):
        return last(code(1, [(INPUT, 0), (kind, 0, 0)]), point((3, 1)), eliminate([1], [1]))

    def test_it_is_one_way(self):
        self.assertEqual(self.told(SUM), [1, 0, 2, 1])
        self.assertEqual(self.told(PRODUCT), [1, 0, 6, 1])

    def test_also_where_it_is_worth_0(self):
        self.assertEqual(self.told(DIFFERENCE), [1, 0, 0, 1])
        self.assertEqual(self.told(QUOTIENT), [1, 0, 0, 1])


class WorthZero(unittest.TestCase):
    def test_an_own_derivative_of_0(self):
        # At 0 both ways to line 2 are worth 0, and the way from 0 to 3 is there when they come to it.
        told = last(code(2, [(INPUT, 0), (INPUT, 1), (PRODUCT, 0, 1), (SUM, 2, 0)]), point((0, 1), (0, 1)),
                    eliminate([3], [2, 3]))
        self.assertEqual(told, [4, 1, 1, 1, 0, 1])

    def test_own_derivatives_that_add_up_to_0(self):
        lines = [(INPUT, 0), (DIFFERENCE, 0, 0), (SUM, 1, 0)]
        told = ask(code(1, lines), point((3, 1)), eliminate([2], [1, 2]), eliminate([2], [2, 1]))
        self.assertEqual(told[2:], [[2, 1, 1, 1], [3, 1, 1, 1]])

    def test_a_sum_that_comes_to_0(self):
        # Line 2 is input 0 less itself: the way stays when it's worth 0, and is met once more.
        lines = [(INPUT, 0), (NEGATIVE, 0), (SUM, 0, 1), (NEGATIVE, 2), (SUM, 3, 0)]
        told = ask(code(1, lines), point((3, 1)), eliminate([2], [1, 2, 3, 4]), eliminate([4], [1, 2, 3, 4]))
        self.assertEqual(told[2:], [[4, 2, 0, 1], [4, 2, 1, 1]])


class Edges(unittest.TestCase):
    def test_no_outs(self):
        # Ways between lines are there without any out; but from line 3 there's none then.
        told = ask(*example_at_3_2(), eliminate([], [2, 3]), eliminate([], [3, 2]))
        self.assertEqual(told[2:], [[2, 1], [0, 0]])

    def test_outs_that_are_inputs(self):
        told = ask(*example_at_3_2(), eliminate([0], [2, 3]), eliminate([1, 0, 1], [3, 2]))
        self.assertEqual(told[2:], [[2, 1, 1, 1, 0, 1], [0, 0, 0, 1, 1, 1, 1, 1, 0, 1, 0, 1, 1, 1]])

    def test_constants_are_taken_out_too(self):
        lines = [(INPUT, 0), (CONSTANT, 5, 1), (PRODUCT, 0, 1)]
        told = ask(code(1, lines), point((3, 1)), eliminate([2], [1, 2]), eliminate([2], [2, 1]))
        self.assertEqual(told[2:], [[1, 0, 5, 1], [2, 0, 5, 1]])

    def test_outs_that_are_constants(self):
        lines = [(INPUT, 0), (CONSTANT, 5, 1), (PRODUCT, 0, 1)]
        told = ask(code(1, lines), point((3, 1)), eliminate([1], [1, 2]), eliminate([1, 2], [2, 1]))
        self.assertEqual(told[2:], [[0, 0, 0, 1], [2, 0, 0, 1, 5, 1]])

    def test_lines_that_lead_to_no_out(self):
        # Lines 2 and 3 lead nowhere: taken out last to first they cost nothing, else line 2 costs a product.
        lines = [(INPUT, 0), (NEGATIVE, 0), (NEGATIVE, 0), (NEGATIVE, 2)]
        told = ask(code(1, lines), point((3, 1)), eliminate([1], [3, 2, 1]), eliminate([1], [2, 3, 1]))
        self.assertEqual(told[2:], [[1, 0, -1, 1], [2, 0, -1, 1]])

    def test_no_lines_and_no_inputs(self):
        self.assertEqual(ask(point(), eliminate([], [])), [[0], [0, 0]])
        self.assertEqual(last(code(2, []), point((1, 1), (1, 1)), eliminate([], [])), [0, 0])
        told = ask(code(0, [(CONSTANT, 1, 1), (NEGATIVE, 0)]), point(), eliminate([1, 0], [0, 1]),
                   eliminate([1, 0], [1, 0]))
        self.assertEqual(told[2:], [[0, 0], [1, 0]])

    def test_inputs_alone_are_no_order(self):
        lines = [(INPUT, 1), (INPUT, 0)]
        told = ask(code(2, lines), point((1, 1), (1, 1)), eliminate([0, 1], []), eliminate([0, 1], [0, 1]))
        self.assertEqual(told[2:], [[0, 0, 0, 1, 1, 1, 1, 1, 0, 1], [-2]])

    def test_every_order_leaves_what_table_tells(self):
        lines = [(INPUT, 0), (INPUT, 1), (PRODUCT, 0, 1), (CONSTANT, 2, 3), (QUOTIENT, 2, 3), (DIFFERENCE, 4, 0),
                 (PRODUCT, 5, 5)]
        start = [code(2, lines), point((3, 2), (-5, 7))]
        outs = [6, 4, 6, 0]
        fractions = last(*start, table(*outs))[1:]
        calls = [eliminate(outs, order) for order in itertools.permutations([2, 3, 4, 5, 6])]
        answers = ask(*start, *calls)[2:]
        self.assertEqual([answer[2:] for answer in answers], [fractions] * 120)
        self.assertGreater(len(set((answer[0], answer[1]) for answer in answers)), 3)

    def test_nothing_is_kept_of_what_was_taken_out(self):
        told = ask(*example_at_3_2(), eliminate([3], [2, 3]), eliminate([3], [2, 3]), values())
        self.assertEqual(told[2:], [[4, 1, 3, 1, 3, 1], [4, 1, 3, 1, 3, 1], [4, 3, 1, 2, 1, 6, 1, 9, 1]])


class Weight(unittest.TestCase):
    ORDER = list(range(1, 12))

    def test_just_800_and_801(self):
        just = code(1, heavy_code((CONSTANT, 2 ** 6, 1)))
        above = code(1, heavy_code((CONSTANT, 2 ** 7, 1)))
        for order in (self.ORDER, self.ORDER[::-1]):
            with self.subTest(order=order):
                self.assertEqual(last(just, point((0, 1)), eliminate([11, 0], order))[2:], [2 ** 798, 1, 1, 1])
                self.assertEqual(last(above, point((0, 1)), eliminate([0, 11], order)), [-6])
                self.assertEqual(last(above, point((0, 1)), eliminate([10], order))[2:], [2 ** 792, 1])

    def test_ways_between_may_be_heavier(self):
        start = [code(1, there_and_back()), point((0, 1))]
        for order in (list(range(1, 16)), list(range(15, 0, -1))):
            with self.subTest(order=order):
                self.assertEqual(last(*start, eliminate([15], order))[2:], [1, 1])
                self.assertEqual(last(*start, eliminate([15, 10], order)), [-6])


class Refused(unittest.TestCase):
    def test_more_than_twelve_outs(self):
        for count in (13, 14, 200):
            with self.subTest(count=count):
                self.assertEqual(last(*example_at_3_2(), eliminate([3] * count, [2, 3])), [-2])

    def test_an_out_that_is_no_line(self):
        for out in (-1, 4, TOP, BOTTOM):
            with self.subTest(out=out):
                self.assertEqual(last(*example_at_3_2(), eliminate([3, out], [2, 3])), [-2])

    def test_an_order_that_is_none(self):
        for order in ([], [2], [3], [2, 2], [3, 3], [2, 3, 3], [2, 3, 2], [0, 2, 3], [2, 3, 4], [2, 4], [0, 1],
                      [-1, 2, 3], [2, 3, TOP], [BOTTOM, 3], [2] * 200, [0, 1, 2, 3]):
            with self.subTest(order=order):
                self.assertEqual(last(*example_at_3_2(), eliminate([3], order)), [-2])

    def test_an_order_without_a_constant(self):
        lines = [(INPUT, 0), (CONSTANT, 5, 1), (PRODUCT, 0, 1)]
        self.assertEqual(last(code(1, lines), point((3, 1)), eliminate([2], [2])), [-2])

    def test_a_new_object_has_no_lines(self):
        told = ask(eliminate([0], []), eliminate([], [0]), eliminate([], []))
        self.assertEqual(told, [[-2], [-2], [-4]])

    def test_no_point(self):
        self.assertEqual(ask(*without_point(), eliminate([], [1]), eliminate([1], [1]))[1:], [[-4], [-4]])

    def test_a_fault(self):
        self.assertEqual(ask(*with_fault(), eliminate([], [1]), eliminate([0], [1]))[2:], [[-5], [-5]])

    def test_the_form_before_the_point_and_the_fault(self):
        for start in (without_point(), with_fault()):
            told = ask(*start, eliminate([2], [1]), eliminate([1], []), eliminate([2], []), eliminate([0] * 13, [1]))
            self.assertEqual(told[len(start):], [[-2]] * 4)

    def test_the_form_before_the_weight(self):
        start = [code(1, heavy_code((CONSTANT, 2 ** 7, 1))), point((0, 1))]
        self.assertEqual(last(*start, eliminate([11], list(range(2, 12)))), [-2])
        self.assertEqual(last(*start, eliminate([11, 12], list(range(1, 12)))), [-2])

    def test_everything_is_as_it_was_after_a_refusal(self):
        told = ask(*example_at_3_2(), eliminate([4], [2, 3]), eliminate([3], [2]), eliminate([3], [2, 3]), values())
        self.assertEqual(told[2:], [[-2], [-2], [4, 1, 3, 1, 3, 1], [4, 3, 1, 2, 1, 6, 1, 9, 1]])


class Largest(unittest.TestCase):
    def test_eighty_lines_twelve_inputs_twelve_outs(self):
        lines = [(INPUT, k) for k in range(12)] + [(PRODUCT if k % 3 == 0 else SUM, 11 + k, k) for k in range(68)]
        start = [code(12, lines), point(*[(k % 3 - 1, 1) for k in range(12)])]
        outs = list(range(68, 80))
        rising = list(range(12, 80))
        mixed = [12 + k * 29 % 68 for k in range(68)]
        told = ask(*start, table(*outs), eliminate(outs, rising), eliminate(outs, rising[::-1]),
                   eliminate(outs, mixed))
        self.assertEqual(told[:2], [[80], [0]])
        self.assertEqual(told[2][0], 144)
        for answer in told[3:]:
            self.assertEqual(answer[2:], told[2][1:])

    def test_long_ways_are_not_slow(self):
        # Fractions grow by some hundred digits every other line, and with every third line taken
        # out first the ways between the others fill up.
        lines = [(INPUT, 0), (INPUT, 1), (INPUT, 2), (CONSTANT, TOP - 11, TOP - 33), (CONSTANT, TOP - 123, TOP - 137)]
        lines += [(PRODUCT, 0, 3), (PRODUCT, 1, 4), (PRODUCT, 2, 3)]
        while len(lines) < 80:
            count = len(lines)
            lines += [(PRODUCT, count - 1, 3 + count // 2 % 2), (SUM, count, count - 3)]
        mixed = list(range(3, 80, 3)) + list(range(4, 80, 3)) + list(range(5, 80, 3))
        told = ask(code(3, lines), point(*[(0, 1)] * 3), *[eliminate(list(range(68, 80)), mixed)] * 5)
        self.assertEqual(told[1:], [[0]] + [[-6]] * 5)


if __name__ == "__main__":
    unittest.main()
