"""Promise 2: point, the run and its faults."""

import unittest

from tests.helper import (BOTTOM, CONSTANT, DIFFERENCE, EXAMPLE, INPUT, NEGATIVE, PRODUCT, QUOTIENT, SUM, TOP,
                          ask, code, last, point, point_of_numbers, value, values)

# Lines 0 to 3 have the values 2^59, 2^118, 2^177 and 2^21; all denominators are 1.
POWERS = [(CONSTANT, 2 ** 59, 1), (PRODUCT, 0, 0), (PRODUCT, 1, 0), (CONSTANT, 2 ** 21, 1)]


class Taken(unittest.TestCase):
    def test_the_example(self):
        self.assertEqual(ask(code(2, EXAMPLE), point((3, 1), (2, 1))), [[4], [0]])

    def test_no_inputs(self):
        self.assertEqual(ask(code(0, [(CONSTANT, 1, 2)]), point(), values()), [[1], [0], [1, 1, 2]])

    def test_a_new_object_has_no_inputs(self):
        self.assertEqual(ask(point(), values()), [[0], [0]])

    def test_twelve_inputs(self):
        lines = [(INPUT, k) for k in range(12)]
        fractions = [(k - 5, k + 1) for k in range(12)]
        told = ask(code(12, lines), point(*fractions), value(11), value(0))
        self.assertEqual(told, [[12], [0], [1, 1, 2], [1, -5, 1]])

    def test_inputs_without_lines(self):
        self.assertEqual(ask(code(3, []), point((1, 1), (2, 1), (3, 1)), values()), [[0], [0], [0]])

    def test_not_in_lowest_terms(self):
        lines = [(INPUT, 0), (INPUT, 1), (INPUT, 2)]
        told = last(code(3, lines), point((-6, 4), (0, 77), (TOP, TOP)), values())
        self.assertEqual(told, [3, -3, 2, 0, 1, 1, 1])

    def test_both_ends_of_the_range(self):
        lines = [(INPUT, 0), (INPUT, 1), (INPUT, 2)]
        told = last(code(3, lines), point((TOP, 1), (BOTTOM, 1), (BOTTOM, TOP - 1)), values())
        self.assertEqual(told, [3, TOP, 1, BOTTOM, 1, BOTTOM, TOP - 1])

    def test_a_later_point_takes_the_place_of_an_earlier(self):
        told = ask(code(1, [(INPUT, 0)]), point((3, 1)), value(0), point((4, 1)), value(0))
        self.assertEqual(told, [[1], [0], [1, 3, 1], [0], [1, 4, 1]])


class Refused(unittest.TestCase):
    def test_not_as_many_fractions_as_inputs(self):
        for numbers in ([], [1], [1, 1], [1, 1, 1], [1, 1, 1, 1, 1], [1] * 6, [1] * 200):
            with self.subTest(numbers=numbers):
                self.assertEqual(last(code(2, EXAMPLE), point_of_numbers(numbers)), [-2])

    def test_numbers_without_inputs(self):
        for numbers in ([1], [1, 1], [0, 0]):
            with self.subTest(numbers=numbers):
                self.assertEqual(ask(point_of_numbers(numbers)), [[-2]])

    def test_denominators_below_1(self):
        for denominator in (0, -1, BOTTOM):
            with self.subTest(denominator=denominator):
                self.assertEqual(last(code(2, EXAMPLE), point((1, 1), (1, denominator))), [-2])
                self.assertEqual(last(code(2, EXAMPLE), point((1, denominator), (1, 1))), [-2])

    def test_the_point_stays(self):
        told = ask(code(2, EXAMPLE), point((3, 1), (2, 1)), point((9, 1)), point((9, 1), (9, 0)), value(3))
        self.assertEqual(told, [[4], [0], [-2], [-2], [1, 9, 1]])

    def test_no_point_stays_no_point(self):
        self.assertEqual(last(code(2, EXAMPLE), point((9, 1)), values()), [-4])

    def test_a_fault_stays(self):
        told = ask(code(1, [(INPUT, 0), (QUOTIENT, 0, 0)]), point((0, 1)), point((1, 0)), values())
        self.assertEqual(told, [[2], [1, 1, 1], [-2], [-5]])


class DivisionByZero(unittest.TestCase):
    def test_by_a_line_that_is_0(self):
        lines = [(INPUT, 0), (CONSTANT, 5, 1), (QUOTIENT, 1, 0)]
        self.assertEqual(last(code(1, lines), point((0, 9))), [1, 2, 1])
        self.assertEqual(last(code(1, lines), point((1, 9))), [0])

    def test_0_by_0(self):
        self.assertEqual(last(code(0, [(CONSTANT, 0, 3), (QUOTIENT, 0, 0)]), point()), [1, 1, 1])

    def test_0_by_another_is_no_fault(self):
        lines = [(CONSTANT, 0, 3), (CONSTANT, -2, 3), (QUOTIENT, 0, 1)]
        self.assertEqual(ask(code(0, lines), point(), value(2))[1:], [[0], [1, 0, 1]])

    def test_a_difference_that_comes_to_0(self):
        lines = [(CONSTANT, 1, 3), (CONSTANT, 2, 6), (DIFFERENCE, 0, 1), (NEGATIVE, 2), (QUOTIENT, 0, 3)]
        self.assertEqual(last(code(0, lines), point()), [1, 4, 1])

    def test_of_several_the_first_is_told(self):
        lines = [(CONSTANT, 0, 1), (CONSTANT, 1, 1), (QUOTIENT, 0, 1), (QUOTIENT, 1, 0), (QUOTIENT, 0, 0)]
        self.assertEqual(last(code(0, lines), point()), [1, 3, 1])


class TooHeavy(unittest.TestCase):
    def test_a_whole_number_of_just_200_and_of_201(self):
        just = POWERS + [(PRODUCT, 2, 3)]
        self.assertEqual(ask(code(0, just), point(), value(4))[1:], [[0], [1, 2 ** 198, 1]])
        above = just + [(SUM, 4, 4)]
        self.assertEqual(last(code(0, above), point()), [1, 5, 2])

    def test_a_sign_has_no_weight(self):
        just = POWERS + [(PRODUCT, 2, 3), (NEGATIVE, 4)]
        self.assertEqual(ask(code(0, just), point(), value(5))[1:], [[0], [1, -2 ** 198, 1]])
        above = just + [(SUM, 5, 5)]
        self.assertEqual(last(code(0, above), point()), [1, 6, 2])

    def test_the_denominator_counts_too(self):
        just = POWERS + [(CONSTANT, 1, 2 ** 21), (QUOTIENT, 4, 2)]
        self.assertEqual(ask(code(0, just), point(), value(5))[1:], [[0], [1, 1, 2 ** 198]])
        above = just + [(CONSTANT, -1, 2), (PRODUCT, 5, 6)]
        self.assertEqual(last(code(0, above), point()), [1, 7, 2])

    def test_numerator_and_denominator_of_100_each(self):
        lines = [(CONSTANT, 2 ** 59, 1), (CONSTANT, 2 ** 40, 1), (PRODUCT, 0, 1),
                 (CONSTANT, 3 ** 31, 1), (CONSTANT, 3 ** 32, 1), (PRODUCT, 3, 4), (QUOTIENT, 2, 5)]
        self.assertEqual((2 ** 99).bit_length() + (3 ** 63).bit_length(), 200)
        self.assertEqual(ask(code(0, lines), point(), value(6))[1:], [[0], [1, 2 ** 99, 3 ** 63]])
        self.assertEqual(last(code(0, lines + [(SUM, 6, 6)]), point()), [1, 7, 2])

    def test_it_is_weighed_in_lowest_terms(self):
        lines = POWERS + [(PRODUCT, 2, 3), (QUOTIENT, 4, 4), (DIFFERENCE, 4, 4), (QUOTIENT, 0, 4)]
        told = ask(code(0, lines), point(), value(5), value(6), value(7))
        self.assertEqual(told[1:], [[0], [1, 1, 1], [1, 0, 1], [1, 1, 2 ** 139]])

    def test_each_operation_can_be_too_heavy(self):
        start = POWERS + [(PRODUCT, 2, 3), (CONSTANT, 1, 3), (NEGATIVE, 4)]
        for line in ((SUM, 4, 4), (DIFFERENCE, 4, 6), (PRODUCT, 4, 4), (QUOTIENT, 4, 5), (SUM, 4, 5)):
            with self.subTest(line=line):
                self.assertEqual(last(code(0, start + [line]), point()), [1, 7, 2])

    def test_of_both_faults_the_first_line_is_told(self):
        zero = [(CONSTANT, 0, 1)]
        heavy_first = POWERS + zero + [(PRODUCT, 2, 2), (QUOTIENT, 0, 4)]
        self.assertEqual(last(code(0, heavy_first), point()), [1, 5, 2])
        zero_first = POWERS + zero + [(QUOTIENT, 0, 4), (PRODUCT, 2, 2)]
        self.assertEqual(last(code(0, zero_first), point()), [1, 5, 1])

    def test_a_line_that_none_uses_counts(self):
        lines = POWERS + [(PRODUCT, 2, 2), (CONSTANT, 1, 1)]
        self.assertEqual(last(code(0, lines), point()), [1, 4, 2])


class WithFault(unittest.TestCase):
    def test_the_point_is_taken_all_the_same(self):
        lines = [(INPUT, 0), (CONSTANT, 1, 1), (QUOTIENT, 1, 0)]
        told = ask(code(1, lines), point((2, 1)), value(2), point((0, 1)), value(2), value(0), point((3, 1)), value(2))
        self.assertEqual(told, [[3], [0], [1, 1, 2], [1, 2, 1], [-5], [-5], [0], [1, 1, 3]])


if __name__ == "__main__":
    unittest.main()
