"""Promise 8: cost."""

import unittest

from tests.helper import (BOTTOM, CONSTANT, DIFFERENCE, INPUT, NEGATIVE, PRODUCT, QUOTIENT, SUM, TOP, ask, code, cost,
                          cost_of_numbers, example_at_3_2, heavy_code, last, point, pull, sums, values, with_fault,
                          without_point)


class Cost(unittest.TestCase):
    def test_the_example(self):
        told = ask(*example_at_3_2(), cost((3, 1, 1)), cost((2, 1, 1)), cost((1, 1, 1)), cost((0, 1, 1)))
        self.assertEqual(told[2:], [[2, 6], [2, 4], [2, 0], [2, 0]])

    def of_line(self, line):
        return last(code(2, [(INPUT, 0), (INPUT, 1), line]), point((3, 2), (-5, 7)), cost((2, -1, 3)))

    def test_each_kind_of_line(self):
        self.assertEqual(self.of_line((INPUT, 1)), [0, 0])
        self.assertEqual(self.of_line((CONSTANT, 5, 1)), [0, 0])
        self.assertEqual(self.of_line((SUM, 0, 1)), [1, 2])
        self.assertEqual(self.of_line((DIFFERENCE, 0, 1)), [1, 2])
        self.assertEqual(self.of_line((PRODUCT, 0, 1)), [1, 4])
        self.assertEqual(self.of_line((QUOTIENT, 0, 1)), [1, 4])
        self.assertEqual(self.of_line((NEGATIVE, 1)), [1, 1])

    def test_a_line_in_both_places_costs_the_same(self):
        self.assertEqual(self.of_line((SUM, 0, 0)), [1, 2])
        self.assertEqual(self.of_line((DIFFERENCE, 0, 0)), [1, 2])
        self.assertEqual(self.of_line((PRODUCT, 0, 0)), [1, 4])
        self.assertEqual(self.of_line((QUOTIENT, 0, 0)), [1, 4])

    def test_operations_count_also_where_nothing_is_passed_on(self):
        lines = [(INPUT, 0), (CONSTANT, 2, 1), (SUM, 0, 1), (DIFFERENCE, 0, 1), (PRODUCT, 0, 1), (QUOTIENT, 0, 1),
                 (NEGATIVE, 0)]
        told = ask(code(1, lines), point((1, 1)), cost(), cost((4, 1, 1)),
                   cost(*[(k, 1, 1) for k in range(7)]), cost((0, 1, 1), (1, 1, 1)))
        self.assertEqual(told[2:], [[5, 0], [5, 4], [5, 13], [5, 0]])

    def test_a_line_that_gets_its_sum_on_the_way(self):
        lines = [(INPUT, 0), (NEGATIVE, 0), (PRODUCT, 1, 0), (SUM, 2, 1)]
        told = ask(code(1, lines), point((5, 1)), cost((3, 1, 1)), cost((2, 1, 1)), cost((1, 1, 1)))
        self.assertEqual(told[2:], [[3, 7], [3, 5], [3, 1]])

    def test_sums_that_come_to_0(self):
        # Line 2 has the weight -1 and gets 1 from line 3.
        self.assertEqual(last(*example_at_3_2(), cost((3, 1, 1), (2, -1, 1))), [2, 2])
        self.assertEqual(last(*example_at_3_2(), cost((3, 1, 2), (3, -2, 4))), [2, 0])
        self.assertEqual(last(*example_at_3_2(), cost((3, 0, 7))), [2, 0])

    def test_an_own_derivative_of_0_passes_nothing_on(self):
        lines = [(INPUT, 0), (NEGATIVE, 0), (CONSTANT, 0, 1), (PRODUCT, 1, 2)]
        told = ask(code(1, lines), point((5, 1)), cost((3, 1, 1)), cost((3, 1, 1), (1, 1, 1)))
        self.assertEqual(told[2:], [[2, 4], [2, 5]])

    def test_a_line_used_in_both_places_of_a_difference_gets_nothing(self):
        lines = [(INPUT, 0), (NEGATIVE, 0), (DIFFERENCE, 1, 1)]
        self.assertEqual(last(code(1, lines), point((5, 1)), cost((2, 1, 1))), [2, 2])

    def test_no_lines_and_no_inputs(self):
        self.assertEqual(ask(point(), cost()), [[0], [0, 0]])
        self.assertEqual(last(code(0, [(CONSTANT, 3, 1), (NEGATIVE, 0)]), point(), cost((1, 5, 1))), [1, 1])

    def test_eighty_lines(self):
        lines = [(INPUT, 0)] + [(PRODUCT, 0, k) for k in range(79)]
        told = ask(code(1, lines), point((1, 1)), cost((79, 1, 1)), cost((40, 1, 1)))
        self.assertEqual(told[2:], [[79, 316], [79, 160]])

    def test_nothing_is_too_heavy(self):
        told = ask(code(1, heavy_code((CONSTANT, 2 ** 7, 1))), point((0, 1)), sums((11, 1, 1)), pull((11, 1, 1)),
                   cost((11, 1, 1)))
        self.assertEqual(told[2:], [[-6], [-6], [8, 20]])


class Refused(unittest.TestCase):
    def test_not_threes(self):
        for length in (1, 2, 4, 5, 400):
            with self.subTest(length=length):
                self.assertEqual(last(*example_at_3_2(), cost_of_numbers([1] * length)), [-2])

    def test_no_such_line(self):
        for line in (-1, 4, TOP, BOTTOM):
            with self.subTest(line=line):
                self.assertEqual(last(*example_at_3_2(), cost((0, 1, 1), (line, 1, 1))), [-2])

    def test_denominators_below_1(self):
        for denominator in (0, -1, BOTTOM):
            with self.subTest(denominator=denominator):
                self.assertEqual(last(*example_at_3_2(), cost((3, 1, denominator))), [-2])

    def test_no_point(self):
        self.assertEqual(ask(cost()), [[-4]])
        self.assertEqual(ask(*without_point(), cost(), cost((0, 1, 1)))[1:], [[-4], [-4]])

    def test_a_fault(self):
        self.assertEqual(ask(*with_fault(), cost(), cost((0, 1, 1)))[2:], [[-5], [-5]])

    def test_the_form_before_the_point_and_the_fault(self):
        self.assertEqual(ask(cost((0, 1, 1))), [[-2]])
        self.assertEqual(last(*without_point(), cost((2, 1, 1))), [-2])
        self.assertEqual(last(*with_fault(), cost((0, 1, 0))), [-2])

    def test_everything_is_as_it_was_after_a_refusal(self):
        told = ask(*example_at_3_2(), cost((4, 1, 1)), cost((3, 1, 1)), values())
        self.assertEqual(told[2:], [[-2], [2, 6], [4, 3, 1, 2, 1, 6, 1, 9, 1]])


if __name__ == "__main__":
    unittest.main()
