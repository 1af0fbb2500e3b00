"""Promise 10: along."""

import unittest

from tests.helper import (BOTTOM, CONSTANT, INPUT, PRODUCT, SUM, TOP, along, along_of_numbers, ask, code,
                          example_at_3_2, gradient, heavy_code, last, point, there_and_back, values, with_fault,
                          without_point)


class Along(unittest.TestCase):
    def test_the_example(self):
        told = ask(*example_at_3_2(), along(3, (1, 1), (1, 1)), along(3, (1, 1), (-1, 1)), along(2, (1, 2), (1, 3)),
                   along(1, (5, 1), (7, 2)), along(0, (5, 1), (7, 2)))
        self.assertEqual(told[2:], [[1, 6, 1], [1, 0, 1], [1, 2, 1], [1, 7, 2], [1, 5, 1]])

    def test_along_one_input_it_is_the_derivative(self):
        told = ask(*example_at_3_2(), along(2, (1, 1), (0, 1)), along(2, (0, 1), (1, 1)), gradient(2))
        self.assertEqual(told[2][1:] + told[3][1:], told[4][1:])

    def test_not_in_lowest_terms_and_below_0(self):
        self.assertEqual(last(*example_at_3_2(), along(2, (-6, 4), (0, 77))), [1, -3, 1])
        self.assertEqual(last(*example_at_3_2(), along(2, (TOP, TOP), (BOTTOM, TOP))), [1, -1, 1])

    def test_the_answer_is_in_lowest_terms(self):
        lines = [(INPUT, 0), (INPUT, 1), (SUM, 0, 1)]
        self.assertEqual(last(code(2, lines), point((0, 1), (0, 1)), along(2, (1, 6), (1, 10))), [1, 4, 15])

    def test_a_direction_of_0(self):
        self.assertEqual(last(*example_at_3_2(), along(3, (0, 1), (0, 5))), [1, 0, 1])

    def test_an_input_that_several_lines_are_and_one_that_none_is(self):
        lines = [(INPUT, 1), (INPUT, 1), (PRODUCT, 0, 1)]
        told = last(code(3, lines), point((4, 1), (5, 1), (6, 1)), along(2, (100, 1), (1, 3), (100, 1)))
        self.assertEqual(told, [1, 10, 3])

    def test_a_constant(self):
        self.assertEqual(last(code(1, [(CONSTANT, 3, 1)]), point((1, 1)), along(0, (9, 1))), [1, 0, 1])

    def test_no_inputs(self):
        self.assertEqual(last(code(0, [(CONSTANT, 3, 1), (SUM, 0, 0)]), point(), along(1)), [1, 0, 1])

    def test_twelve_inputs(self):
        lines = [(INPUT, k) for k in range(12)] + [(SUM, 0, 1)] + [(SUM, 10 + k, k) for k in range(2, 12)]
        told = last(code(12, lines), point(*[(0, 1)] * 12), along(22, *[(k, 2) for k in range(12)]))
        self.assertEqual(told, [1, 33, 1])


class Weight(unittest.TestCase):
    def told(self, factor, step):
        return last(code(1, heavy_code((CONSTANT, factor, 1))), point((0, 1)), along(11, step))

    def test_just_800_and_801(self):
        self.assertEqual(self.told(2 ** 6, (1, 1)), [1, 2 ** 798, 1])
        self.assertEqual(self.told(2 ** 6, (-1, 1)), [1, -2 ** 798, 1])
        self.assertEqual(self.told(2 ** 6, (2, 1)), [-6])
        self.assertEqual(self.told(2 ** 6, (-2, 1)), [-6])
        self.assertEqual(self.told(2 ** 6, (1, 6)), [1, 2 ** 797, 3])
        self.assertEqual(self.told(2 ** 6, (1, 3)), [-6])

    def test_a_derivative_that_is_not_told_may_be_heavier(self):
        self.assertEqual(self.told(2 ** 7, (1, 2)), [1, 2 ** 798, 1])
        self.assertEqual(self.told(2 ** 7, (0, 1)), [1, 0, 1])

    def test_heavy_derivatives_that_cancel(self):
        # Lines 11 and 17 are inputs 0 and 1 (both 0), each times 2^799.
        lines = heavy_code((CONSTANT, 2 ** 7, 1)) + [(INPUT, 1), (PRODUCT, 12, 5), (PRODUCT, 13, 5), (PRODUCT, 14, 5),
                                                     (PRODUCT, 15, 5), (PRODUCT, 16, 6), (SUM, 11, 17)]
        told = ask(code(2, lines), point((0, 1), (0, 1)), gradient(18), along(18, (1, 1), (-1, 1)),
                   along(18, (1, 1), (1, 1)), along(18, (1, 1), (-1, 2)))
        self.assertEqual(told[2:], [[-6], [1, 0, 1], [-6], [1, 2 ** 798, 1]])

    def test_heavy_sums_between(self):
        told = ask(code(1, there_and_back()), point((0, 1)), along(15, (2, 3)), along(10, (2, 3)))
        self.assertEqual(told[2:], [[1, 2, 3], [-6]])


class Refused(unittest.TestCase):
    def test_no_such_line(self):
        for i in (-1, 4, BOTTOM, TOP):
            with self.subTest(i=i):
                self.assertEqual(last(*example_at_3_2(), along(i, (1, 1), (1, 1))), [-1])

    def test_a_new_object_has_no_line(self):
        self.assertEqual(ask(along(0), point(), along(0)), [[-1], [0], [-1]])

    def test_not_as_many_fractions_as_inputs(self):
        for numbers in ([], [1], [1, 1], [1, 1, 1], [1, 1, 1, 1, 1], [1] * 6, [1] * 200):
            with self.subTest(numbers=numbers):
                self.assertEqual(last(*example_at_3_2(), along_of_numbers(3, numbers)), [-2])

    def test_denominators_below_1(self):
        for denominator in (0, -1, BOTTOM):
            with self.subTest(denominator=denominator):
                self.assertEqual(last(*example_at_3_2(), along(3, (1, 1), (1, denominator))), [-2])
                self.assertEqual(last(*example_at_3_2(), along(1, (0, denominator), (1, 1))), [-2])

    def test_no_point(self):
        self.assertEqual(last(*without_point(), along(0, (1, 1))), [-4])

    def test_a_fault_even_for_lines_ahead_of_it(self):
        self.assertEqual(ask(*with_fault(), along(0, (1, 1)), along(1, (1, 1)))[2:], [[-5], [-5]])

    def test_the_line_before_the_form(self):
        self.assertEqual(last(*example_at_3_2(), along(4, (1, 1))), [-1])
        self.assertEqual(last(*example_at_3_2(), along(-1, (1, 1), (1, 0))), [-1])

    def test_the_line_before_the_point_and_the_fault(self):
        self.assertEqual(last(*without_point(), along(2, (1, 1))), [-1])
        self.assertEqual(last(*with_fault(), along(2, (1, 1))), [-1])

    def test_the_form_before_the_point_and_the_fault(self):
        self.assertEqual(last(*without_point(), along(0)), [-2])
        self.assertEqual(last(*with_fault(), along(0, (1, 0))), [-2])

    def test_everything_is_as_it_was_after_a_refusal(self):
        told = ask(*example_at_3_2(), along(4), along(3), along(3, (1, 1), (2, 1)), values())
        self.assertEqual(told[2:], [[-1], [-2], [1, 9, 1], [4, 3, 1, 2, 1, 6, 1, 9, 1]])


if __name__ == "__main__":
    unittest.main()
