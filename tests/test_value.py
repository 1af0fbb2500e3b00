"""Promise 3: value and values."""

import unittest

from tests.helper import (BOTTOM, CONSTANT, DIFFERENCE, INPUT, NEGATIVE, PRODUCT, QUOTIENT, SUM, TOP,
                          ask, code, example_at_3_2, last, point, value, values, with_fault, without_point)

ALL_KINDS = [(INPUT, 0), (CONSTANT, -6, 4), (SUM, 0, 1), (DIFFERENCE, 0, 1), (PRODUCT, 0, 1), (QUOTIENT, 0, 1),
             (NEGATIVE, 0)]


class Value(unittest.TestCase):
    def test_the_example(self):
        told = ask(*example_at_3_2(), value(0), value(1), value(2), value(3))
        self.assertEqual(told[2:], [[1, 3, 1], [1, 2, 1], [1, 6, 1], [1, 9, 1]])

    def test_no_such_line(self):
        for i in (-1, 4, BOTTOM, TOP):
            with self.subTest(i=i):
                self.assertEqual(last(*example_at_3_2(), value(i)), [-1])

    def test_a_new_object_has_no_line(self):
        self.assertEqual(ask(value(0), point(), value(0)), [[-1], [0], [-1]])

    def test_no_point(self):
        self.assertEqual(last(*without_point(), value(0)), [-4])

    def test_a_fault_even_for_lines_ahead_of_it(self):
        self.assertEqual(ask(*with_fault(), value(0), value(1))[2:], [[-5], [-5]])

    def test_the_line_before_the_point_and_the_fault(self):
        self.assertEqual(last(*without_point(), value(2)), [-1])
        self.assertEqual(last(*with_fault(), value(2)), [-1])
        self.assertEqual(last(*with_fault(), value(-1)), [-1])

    def test_everything_is_as_it_was_after_a_refusal(self):
        self.assertEqual(ask(*example_at_3_2(), value(4), value(3))[2:], [[-1], [1, 9, 1]])


class Values(unittest.TestCase):
    def test_the_example(self):
        self.assertEqual(last(*example_at_3_2(), values()), [4, 3, 1, 2, 1, 6, 1, 9, 1])

    def test_each_kind_of_line(self):
        told = last(code(1, ALL_KINDS), point((5, 10)), values())
        self.assertEqual(told, [7, 1, 2, -3, 2, -1, 1, 2, 1, -3, 4, -1, 3, -1, 2])

    def test_a_line_in_both_places(self):
        lines = [(INPUT, 0), (SUM, 0, 0), (DIFFERENCE, 0, 0), (PRODUCT, 0, 0), (QUOTIENT, 0, 0)]
        told = last(code(1, lines), point((-2, 3)), values())
        self.assertEqual(told, [5, -2, 3, -4, 3, 0, 1, 4, 9, 1, 1])

    def test_the_signs_of_quotients(self):
        lines = [(INPUT, 0), (INPUT, 1), (QUOTIENT, 0, 1)]
        for first in (3, -3):
            for second in (2, -2):
                with self.subTest(first=first, second=second):
                    told = last(code(2, lines), point((first, 5), (second, 7)), value(2))
                    self.assertEqual(told, [1, first * second // 6 * 21, 10])

    def test_0_is_0_over_1(self):
        lines = [(INPUT, 0), (CONSTANT, 0, TOP), (NEGATIVE, 1), (PRODUCT, 0, 1), (DIFFERENCE, 0, 0), (QUOTIENT, 1, 0),
                 (SUM, 1, 2)]
        told = last(code(1, lines), point((7, 3)), values())
        self.assertEqual(told, [7, 7, 3] + [0, 1] * 6)

    def test_sums_in_lowest_terms(self):
        lines = [(CONSTANT, 1, 6), (CONSTANT, 1, 10), (SUM, 0, 1), (DIFFERENCE, 0, 1), (CONSTANT, 5, 6), (SUM, 0, 4)]
        told = last(code(0, lines), point(), values())
        self.assertEqual(told, [6, 1, 6, 1, 10, 4, 15, 1, 15, 5, 6, 1, 1])

    def test_large_numbers(self):
        lines = [(CONSTANT, TOP, 1), (CONSTANT, BOTTOM, TOP - 1), (PRODUCT, 0, 1), (CONSTANT, BOTTOM, TOP)]
        told = last(code(0, lines), point(), values())
        self.assertEqual(told, [4, TOP, 1, BOTTOM, TOP - 1, -TOP * TOP, TOP - 1, -1, 1])

    def test_inputs_in_any_order_and_more_than_once(self):
        lines = [(INPUT, 2), (INPUT, 0), (INPUT, 2)]
        told = last(code(3, lines), point((1, 1), (2, 1), (3, 1)), values())
        self.assertEqual(told, [3, 3, 1, 1, 1, 3, 1])

    def test_no_lines(self):
        self.assertEqual(ask(values(), point(), values()), [[-4], [0], [0]])

    def test_no_point(self):
        self.assertEqual(last(*without_point(), values()), [-4])

    def test_a_fault(self):
        self.assertEqual(last(*with_fault(), values()), [-5])


if __name__ == "__main__":
    unittest.main()
