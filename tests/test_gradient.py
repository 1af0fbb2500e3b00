"""Promise 5: gradient."""

import unittest

from tests.helper import (BOTTOM, CONSTANT, DIFFERENCE, INPUT, NEGATIVE, PRODUCT, QUOTIENT, SUM, TOP, ask, code,
                          example_at_3_2, gradient, heavy_code, last, point, there_and_back, values, with_fault,
                          without_point)


class Gradient(unittest.TestCase):
    def test_the_example(self):
        told = ask(*example_at_3_2(), gradient(3), gradient(2), gradient(1), gradient(0))
        self.assertEqual(told[2:], [[2, 3, 1, 3, 1], [2, 2, 1, 3, 1], [2, 0, 1, 1, 1], [2, 1, 1, 0, 1]])

    def of_line(self, line):
        """The gradient of a line on input 0, which is 3/2, and input 1, which is -5/7."""
        lines = [(INPUT, 0), (INPUT, 1), line]
        return last(code(2, lines), point((3, 2), (-5, 7)), gradient(2))

    def test_each_kind_of_line(self):
        self.assertEqual(self.of_line((INPUT, 1)), [2, 0, 1, 1, 1])
        self.assertEqual(self.of_line((CONSTANT, 5, 1)), [2, 0, 1, 0, 1])
        self.assertEqual(self.of_line((SUM, 0, 1)), [2, 1, 1, 1, 1])
        self.assertEqual(self.of_line((DIFFERENCE, 0, 1)), [2, 1, 1, -1, 1])
        self.assertEqual(self.of_line((PRODUCT, 0, 1)), [2, -5, 7, 3, 2])
        self.assertEqual(self.of_line((QUOTIENT, 0, 1)), [2, -7, 5, -147, 50])
        self.assertEqual(self.of_line((NEGATIVE, 1)), [2, 0, 1, -1, 1])

    def test_a_line_in_both_places(self):
        self.assertEqual(self.of_line((SUM, 0, 0)), [2, 2, 1, 0, 1])
        self.assertEqual(self.of_line((DIFFERENCE, 0, 0)), [2, 0, 1, 0, 1])
        self.assertEqual(self.of_line((PRODUCT, 0, 0)), [2, 3, 1, 0, 1])
        self.assertEqual(self.of_line((QUOTIENT, 0, 0)), [2, 0, 1, 0, 1])

    def test_lines_behind_it_do_not_count(self):
        lines = [(INPUT, 0), (PRODUCT, 0, 0), (PRODUCT, 1, 1)]
        told = ask(code(1, lines), point((3, 1)), gradient(0), gradient(1), gradient(2))
        self.assertEqual(told[2:], [[1, 1, 1], [1, 6, 1], [1, 108, 1]])

    def test_an_input_that_no_line_is(self):
        lines = [(INPUT, 2), (PRODUCT, 0, 0)]
        told = last(code(4, lines), point((1, 1), (2, 1), (3, 1), (4, 1)), gradient(1))
        self.assertEqual(told, [4, 0, 1, 0, 1, 6, 1, 0, 1])

    def test_an_input_that_several_lines_are(self):
        lines = [(INPUT, 0), (INPUT, 0), (PRODUCT, 0, 1), (INPUT, 0), (PRODUCT, 2, 3)]
        told = ask(code(1, lines), point((5, 1)), gradient(4), gradient(3), gradient(2))
        self.assertEqual(told[2:], [[1, 75, 1], [1, 1, 1], [1, 10, 1]])

    def test_no_inputs(self):
        self.assertEqual(last(code(0, [(CONSTANT, 1, 1), (SUM, 0, 0)]), point(), gradient(1)), [0])

    def test_twelve_inputs(self):
        lines = [(INPUT, k) for k in range(12)] + [(PRODUCT, 0, 1)] + [(PRODUCT, 10 + k, k) for k in range(2, 12)]
        fractions = [(1, 1)] * 11 + [(2, 3)]
        told = last(code(12, lines), point(*fractions), gradient(22))
        self.assertEqual(told, [12] + [2, 3] * 11 + [1, 1])

    def test_eighty_lines(self):
        lines = [(INPUT, 0)] + [(SUM, k, k) for k in range(79)]
        told = ask(code(1, lines), point((1, 3)), gradient(79), gradient(78))
        self.assertEqual(told[2:], [[1, 2 ** 79, 1], [1, 2 ** 78, 1]])


class Weight(unittest.TestCase):
    def test_just_800_is_told(self):
        told = ask(code(1, heavy_code((CONSTANT, 2 ** 6, 1))), point((0, 1)), gradient(11))
        self.assertEqual(told[1:], [[0], [1, 2 ** 798, 1]])

    def test_801_is_refused(self):
        told = ask(code(1, heavy_code((CONSTANT, 2 ** 7, 1))), point((0, 1)), gradient(11), gradient(10))
        self.assertEqual(told[1:], [[0], [-6], [1, 2 ** 792, 1]])

    def test_a_sign_has_no_weight(self):
        just = ask(code(1, heavy_code((CONSTANT, -2 ** 6, 1))), point((0, 1)), gradient(11))
        self.assertEqual(just[1:], [[0], [1, -2 ** 798, 1]])
        above = ask(code(1, heavy_code((CONSTANT, -2 ** 7, 1))), point((0, 1)), gradient(11))
        self.assertEqual(above[1:], [[0], [-6]])

    def test_the_denominator_counts(self):
        just = ask(code(1, heavy_code((CONSTANT, 2 ** 5, 3))), point((0, 1)), gradient(11))
        self.assertEqual(just[1:], [[0], [1, 2 ** 797, 3]])
        above = ask(code(1, heavy_code((CONSTANT, 2 ** 6, 3))), point((0, 1)), gradient(11))
        self.assertEqual(above[1:], [[0], [-6]])

    def test_one_heavy_fraction_among_light_ones(self):
        lines = heavy_code((CONSTANT, 2 ** 7, 1)) + [(INPUT, 1), (SUM, 11, 12)]
        told = ask(code(2, lines), point((0, 1), (0, 1)), gradient(13), gradient(12))
        self.assertEqual(told[2:], [[-6], [2, 0, 1, 1, 1]])

    def test_a_heavy_sum_that_is_not_told(self):
        told = ask(code(1, there_and_back()), point((0, 1)), gradient(15), gradient(10))
        self.assertEqual(told[1:], [[0], [1, 1, 1], [-6]])

    def test_everything_is_as_it_was_after_the_refusal(self):
        told = ask(code(1, heavy_code((CONSTANT, 2 ** 7, 1))), point((0, 1)), values(), gradient(11), values())
        self.assertEqual(told[3], [-6])
        self.assertEqual(told[2], told[4])


class Refused(unittest.TestCase):
    def test_no_such_line(self):
        for i in (-1, 4, BOTTOM, TOP):
            with self.subTest(i=i):
                self.assertEqual(last(*example_at_3_2(), gradient(i)), [-1])

    def test_a_new_object_has_no_line(self):
        self.assertEqual(ask(gradient(0), point(), gradient(0)), [[-1], [0], [-1]])

    def test_no_point(self):
        self.assertEqual(last(*without_point(), gradient(0)), [-4])

    def test_a_fault_even_for_lines_ahead_of_it(self):
        self.assertEqual(ask(*with_fault(), gradient(0), gradient(1))[2:], [[-5], [-5]])

    def test_the_line_before_the_point_and_the_fault(self):
        self.assertEqual(last(*without_point(), gradient(2)), [-1])
        self.assertEqual(last(*with_fault(), gradient(-1)), [-1])


if __name__ == "__main__":
    unittest.main()
