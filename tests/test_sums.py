"""Promise 6: sums."""

import unittest

from tests.helper import (BOTTOM, CONSTANT, DIFFERENCE, INPUT, NEGATIVE, PRODUCT, QUOTIENT, SUM, TOP, ask, code,
                          example_at_3_2, heavy_code, last, point, pull, sums, sums_of_numbers, there_and_back, values,
                          with_fault, without_point)


class Sums(unittest.TestCase):
    def test_the_example(self):
        told = ask(*example_at_3_2(), sums((3, 1, 1)), sums((2, 1, 1)), sums((1, 1, 1)), sums((0, 1, 1)))
        self.assertEqual(told[2:], [[4, 3, 1, 3, 1, 1, 1, 1, 1],
                                    [4, 2, 1, 3, 1, 1, 1, 0, 1],
                                    [4, 0, 1, 1, 1, 0, 1, 0, 1],
                                    [4, 1, 1, 0, 1, 0, 1, 0, 1]])

    def of_line(self, line):
        """The sums of input 0, which is 3/2, of input 1, which is -5/7, and of a line on them, which weighs 2."""
        told = last(code(2, [(INPUT, 0), (INPUT, 1), line]), point((3, 2), (-5, 7)), sums((2, 2, 1)))
        self.assertEqual(told[:1] + told[-2:], [3, 2, 1])
        return told[1:-2]

    def test_each_kind_of_line(self):
        self.assertEqual(self.of_line((INPUT, 1)), [0, 1, 0, 1])
        self.assertEqual(self.of_line((CONSTANT, 5, 1)), [0, 1, 0, 1])
        self.assertEqual(self.of_line((SUM, 0, 1)), [2, 1, 2, 1])
        self.assertEqual(self.of_line((DIFFERENCE, 0, 1)), [2, 1, -2, 1])
        self.assertEqual(self.of_line((PRODUCT, 0, 1)), [-10, 7, 3, 1])
        self.assertEqual(self.of_line((QUOTIENT, 0, 1)), [-14, 5, -147, 25])
        self.assertEqual(self.of_line((NEGATIVE, 1)), [0, 1, -2, 1])

    def test_a_line_in_both_places(self):
        self.assertEqual(self.of_line((SUM, 0, 0)), [4, 1, 0, 1])
        self.assertEqual(self.of_line((DIFFERENCE, 0, 0)), [0, 1, 0, 1])
        self.assertEqual(self.of_line((PRODUCT, 0, 0)), [6, 1, 0, 1])
        self.assertEqual(self.of_line((QUOTIENT, 0, 0)), [0, 1, 0, 1])

    def test_lines_of_one_input_have_sums_of_their_own(self):
        lines = [(INPUT, 0), (INPUT, 0), (PRODUCT, 0, 1), (INPUT, 0), (DIFFERENCE, 2, 3)]
        told = ask(code(1, lines), point((5, 1)), sums((4, 1, 1)), pull((4, 1, 1)))
        self.assertEqual(told[2:], [[5, 5, 1, 5, 1, 1, 1, -1, 1, 1, 1], [1, 9, 1]])

    def test_constants_have_sums_too(self):
        lines = [(INPUT, 0), (CONSTANT, 3, 1), (PRODUCT, 0, 1)]
        told = last(code(1, lines), point((7, 2)), sums((2, 1, 1), (1, 1, 2)))
        self.assertEqual(told, [3, 3, 1, 4, 1, 1, 1])

    def test_weights_on_several_lines_in_any_order(self):
        told = last(*example_at_3_2(), sums((0, -7, 1), (3, 1, 2), (2, 5, 1)))
        self.assertEqual(told, [4, 9, 2, 33, 2, 11, 2, 1, 2])

    def test_a_line_told_more_than_once(self):
        told = last(*example_at_3_2(), sums((3, 1, 2), (1, 1, 1), (3, 1, 3), (3, 2, 12)))
        self.assertEqual(told, [4, 3, 1, 4, 1, 1, 1, 1, 1])

    def test_sums_that_come_to_0_on_the_way(self):
        told = last(*example_at_3_2(), sums((3, 1, 1), (2, -1, 1)))
        self.assertEqual(told, [4, 1, 1, 0, 1, 0, 1, 1, 1])

    def test_no_weights_and_weights_of_0(self):
        self.assertEqual(last(*example_at_3_2(), sums()), [4] + [0, 1] * 4)
        self.assertEqual(last(*example_at_3_2(), sums((3, 0, 5), (3, 1, 2), (3, -2, 4))), [4] + [0, 1] * 4)

    def test_no_lines_and_no_inputs(self):
        self.assertEqual(ask(point(), sums()), [[0], [0]])
        self.assertEqual(last(code(2, []), point((1, 1), (1, 1)), sums()), [0])
        told = last(code(0, [(CONSTANT, 3, 1), (NEGATIVE, 0)]), point(), sums((1, 5, 1)))
        self.assertEqual(told, [2, -5, 1, 5, 1])

    def test_eighty_lines(self):
        lines = [(INPUT, 0)] + [(SUM, k, k) for k in range(79)]
        told = last(code(1, lines), point((1, 3)), sums((79, 1, 1)))
        expected = [80]
        for k in range(80):
            expected += [2 ** (79 - k), 1]
        self.assertEqual(told, expected)


class Weight(unittest.TestCase):
    def test_just_800_and_801(self):
        just = last(code(1, heavy_code((CONSTANT, 2 ** 6, 1))), point((0, 1)), sums((11, -1, 1)))
        self.assertEqual(just[:3], [12, -2 ** 798, 1])
        self.assertEqual(just[-2:], [-1, 1])
        above = ask(code(1, heavy_code((CONSTANT, 2 ** 7, 1))), point((0, 1)), sums((11, 1, 1)), sums((10, 1, 1)))
        self.assertEqual(above[2], [-6])
        self.assertEqual(above[3][:3], [12, 2 ** 792, 1])

    def test_a_sum_between_is_told_too(self):
        # The inputs' derivatives are light, so pull tells them, but sums tells the heavy ones between.
        told = ask(code(1, there_and_back()), point((0, 1)), pull((15, 1, 1)), sums((15, 1, 1)))
        self.assertEqual(told[2:], [[1, 1, 1], [-6]])

    def test_weights_that_are_too_heavy_themselves(self):
        primes = [TOP - d for d in (11, 33, 123, 137, 171, 251, 263, 291, 363, 369, 387, 399, 431, 461)]
        threes = [(1, 1, p) for p in primes]
        told = ask(code(1, [(INPUT, 0), (CONSTANT, 1, 1)]), point((0, 1)), pull(*threes), sums(*threes))
        self.assertEqual(told[2:], [[1, 0, 1], [-6]])


class Refused(unittest.TestCase):
    def test_not_threes(self):
        for length in (1, 2, 4, 5, 400):
            with self.subTest(length=length):
                self.assertEqual(last(*example_at_3_2(), sums_of_numbers([1] * length)), [-2])

    def test_no_such_line(self):
        for line in (-1, 4, TOP, BOTTOM):
            with self.subTest(line=line):
                self.assertEqual(last(*example_at_3_2(), sums((0, 1, 1), (line, 1, 1))), [-2])

    def test_denominators_below_1(self):
        for denominator in (0, -1, BOTTOM):
            with self.subTest(denominator=denominator):
                self.assertEqual(last(*example_at_3_2(), sums((3, 0, denominator), (3, 1, 1))), [-2])

    def test_no_point(self):
        self.assertEqual(ask(sums()), [[-4]])
        self.assertEqual(ask(*without_point(), sums(), sums((0, 1, 1)))[1:], [[-4], [-4]])

    def test_a_fault(self):
        self.assertEqual(ask(*with_fault(), sums(), sums((0, 1, 1)))[2:], [[-5], [-5]])

    def test_the_form_before_the_point_and_the_fault(self):
        self.assertEqual(ask(sums((0, 1, 1))), [[-2]])
        self.assertEqual(last(*without_point(), sums((2, 1, 1))), [-2])
        self.assertEqual(last(*with_fault(), sums((0, 1, 0))), [-2])

    def test_everything_is_as_it_was_after_a_refusal(self):
        told = ask(*example_at_3_2(), sums((4, 1, 1)), sums((3, 1, 1)), values())
        self.assertEqual(told[2:], [[-2], [4, 3, 1, 3, 1, 1, 1, 1, 1], [4, 3, 1, 2, 1, 6, 1, 9, 1]])


if __name__ == "__main__":
    unittest.main()
