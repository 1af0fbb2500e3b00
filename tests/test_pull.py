"""Promise 6: pull."""

import unittest

from tests.helper import (BOTTOM, CONSTANT, INPUT, NEGATIVE, PRODUCT, SUM, TOP, ask, code, example_at_3_2, gradient,
                          last, point, pull, pull_of_numbers, values, with_fault, without_point)


class Pull(unittest.TestCase):
    def test_the_example(self):
        told = ask(*example_at_3_2(), pull((3, 1, 1)), pull((2, 1, 1)), pull((3, 2, 1), (1, -1, 2)))
        self.assertEqual(told[2:], [[2, 3, 1, 3, 1], [2, 2, 1, 3, 1], [2, 6, 1, 11, 2]])

    def test_weight_1_on_one_line_is_its_gradient(self):
        for i in range(4):
            with self.subTest(i=i):
                told = ask(*example_at_3_2(), pull((i, 1, 1)), gradient(i))
                self.assertEqual(told[2], told[3])

    def test_weights_on_lines_that_use_one_another(self):
        # d(w3 (ab + a) + w2 ab + w0 a) with a = 3, b = 2 and the weights 1/2, 5 and -7.
        told = last(*example_at_3_2(), pull((0, -7, 1), (3, 1, 2), (2, 5, 1)))
        self.assertEqual(told, [2, 9, 2, 33, 2])

    def test_not_in_lowest_terms_and_below_0(self):
        self.assertEqual(last(*example_at_3_2(), pull((3, -6, 4))), [2, -9, 2, -9, 2])
        self.assertEqual(last(*example_at_3_2(), pull((3, TOP, TOP))), [2, 3, 1, 3, 1])

    def test_a_line_told_more_than_once(self):
        told = last(*example_at_3_2(), pull((3, 1, 2), (1, 1, 1), (3, 1, 3), (3, 1, 6)))
        self.assertEqual(told, [2, 3, 1, 4, 1])

    def test_weights_that_add_up_to_0(self):
        told = last(*example_at_3_2(), pull((3, 1, 2), (3, 1, 3), (3, -10, 12)))
        self.assertEqual(told, [2, 0, 1, 0, 1])

    def test_weights_of_0(self):
        self.assertEqual(last(*example_at_3_2(), pull((3, 0, 5), (2, 0, 1))), [2, 0, 1, 0, 1])

    def test_sums_that_come_to_0_on_the_way(self):
        # Line 2 has the weight -1 and gets 1 from line 3: nothing is left to pass on.
        self.assertEqual(last(*example_at_3_2(), pull((3, 1, 1), (2, -1, 1))), [2, 1, 1, 0, 1])

    def test_no_weights(self):
        self.assertEqual(last(*example_at_3_2(), pull()), [2, 0, 1, 0, 1])

    def test_no_inputs_and_no_lines(self):
        self.assertEqual(ask(point(), pull()), [[0], [0]])
        self.assertEqual(last(code(0, [(CONSTANT, 3, 1)]), point(), pull((0, 5, 1))), [0])
        self.assertEqual(last(code(2, []), point((1, 1), (1, 1)), pull()), [2, 0, 1, 0, 1])

    def test_a_weight_on_a_constant(self):
        lines = [(INPUT, 0), (CONSTANT, 3, 1), (PRODUCT, 0, 1)]
        self.assertEqual(last(code(1, lines), point((1, 1)), pull((1, 5, 1), (2, 1, 1))), [1, 3, 1])

    def test_an_input_that_several_lines_are_and_one_that_none_is(self):
        lines = [(INPUT, 1), (INPUT, 1), (NEGATIVE, 0)]
        told = last(code(2, lines), point((1, 1), (1, 1)), pull((0, 1, 2), (1, 1, 3), (2, 1, 6)))
        self.assertEqual(told, [2, 0, 1, 2, 3])

    def test_both_ends_of_the_range(self):
        told = last(code(1, [(INPUT, 0)]), point((BOTTOM, TOP)), pull((0, BOTTOM, TOP - 1), (0, BOTTOM, TOP - 1)))
        self.assertEqual(told, [1, -2 * TOP, TOP - 1])

    def test_as_many_weights_as_a_long_list_holds(self):
        threes = [(k % 4, k, 7) for k in range(133)]
        sums = [sum(k for k in range(133) if k % 4 == i) for i in range(4)]
        by_first = sums[0] + 2 * sums[2] + 3 * sums[3]
        by_second = sums[1] + 3 * sums[2] + 3 * sums[3]
        told = last(*example_at_3_2(), pull(*threes))
        self.assertEqual([told[1] * 7, told[3] * 7], [by_first * told[2], by_second * told[4]])

    def test_nothing_is_kept_of_the_weights(self):
        told = ask(*example_at_3_2(), pull((3, 1, 1)), pull((3, 1, 1)), pull(), values())
        self.assertEqual(told[2:], [[2, 3, 1, 3, 1], [2, 3, 1, 3, 1], [2, 0, 1, 0, 1], [4, 3, 1, 2, 1, 6, 1, 9, 1]])


class Weight(unittest.TestCase):
    def told(self, *threes):
        """Pulled at input 0, then 2^198 and input 0 (which is 0) times it, one to four times over."""
        powers = [(INPUT, 0), (CONSTANT, 2 ** 59, 1), (PRODUCT, 1, 1), (PRODUCT, 2, 1), (CONSTANT, 2 ** 21, 1),
                  (PRODUCT, 3, 4)]
        lines = powers + [(PRODUCT, 0, 5), (PRODUCT, 6, 5), (PRODUCT, 7, 5), (PRODUCT, 8, 5)]
        return last(code(1, lines), point((0, 1)), pull(*threes))

    def test_just_800_and_801(self):
        self.assertEqual(self.told((9, 2 ** 6, 1)), [1, 2 ** 798, 1])
        self.assertEqual(self.told((9, 2 ** 7, 1)), [-6])
        self.assertEqual(self.told((9, -2 ** 6, 1)), [1, -2 ** 798, 1])
        self.assertEqual(self.told((9, -2 ** 7, 1)), [-6])

    def test_the_denominator_counts(self):
        self.assertEqual(self.told((9, 2 ** 5, 3)), [1, 2 ** 797, 3])
        self.assertEqual(self.told((9, 2 ** 6, 3)), [-6])

    def test_heavy_weights_that_add_up_to_0(self):
        self.assertEqual(self.told((9, TOP, 1), (9, BOTTOM, 1)), [1, 0, 1])
        self.assertEqual(self.told((9, 2 ** 7, 1), (9, -2 ** 6, 1)), [1, 2 ** 798, 1])

    def test_heavy_denominators_of_weights(self):
        # Fourteen primes near 10^18 as denominators: 14 times 60 digits are above 800, 6 are not.
        primes = [TOP - d for d in (11, 33, 123, 137, 171, 251, 263, 291, 363, 369, 387, 399, 431, 461)]
        threes = [(0, 1, p) for p in primes]
        self.assertEqual(self.told(*threes), [-6])
        told = self.told(*threes[:6])
        denominator = 1
        for p in primes[:6]:
            denominator *= p
        self.assertEqual(told, [1, sum(denominator // p for p in primes[:6]), denominator])


class Refused(unittest.TestCase):
    def test_not_threes(self):
        for length in (1, 2, 4, 5, 400):
            with self.subTest(length=length):
                self.assertEqual(last(*example_at_3_2(), pull_of_numbers([1] * length)), [-2])

    def test_no_such_line(self):
        for line in (-1, 4, TOP, BOTTOM):
            with self.subTest(line=line):
                self.assertEqual(last(*example_at_3_2(), pull((0, 1, 1), (line, 1, 1))), [-2])

    def test_denominators_below_1(self):
        for denominator in (0, -1, BOTTOM):
            with self.subTest(denominator=denominator):
                self.assertEqual(last(*example_at_3_2(), pull((3, 1, denominator))), [-2])
                self.assertEqual(last(*example_at_3_2(), pull((3, 0, denominator), (3, 1, 1))), [-2])

    def test_a_new_object_has_no_lines(self):
        self.assertEqual(ask(pull((0, 1, 1)), pull()), [[-2], [-4]])

    def test_no_point(self):
        self.assertEqual(ask(*without_point(), pull(), pull((0, 1, 1)))[1:], [[-4], [-4]])

    def test_a_fault(self):
        self.assertEqual(ask(*with_fault(), pull(), pull((0, 1, 1)))[2:], [[-5], [-5]])

    def test_the_form_before_the_point_and_the_fault(self):
        self.assertEqual(last(*without_point(), pull((2, 1, 1))), [-2])
        self.assertEqual(last(*with_fault(), pull((0, 1, 0))), [-2])
        self.assertEqual(last(*with_fault(), pull_of_numbers([0])), [-2])

    def test_everything_is_as_it_was_after_a_refusal(self):
        told = ask(*example_at_3_2(), pull((4, 1, 1)), pull((3, 1, 1)), values())
        self.assertEqual(told[2:], [[-2], [2, 3, 1, 3, 1], [4, 3, 1, 2, 1, 6, 1, 9, 1]])

    def test_a_sum_of_lines_at_another_point(self):
        lines = [(INPUT, 0), (SUM, 0, 0), (PRODUCT, 1, 0)]
        told = ask(code(1, lines), point((3, 1)), pull((2, 1, 1)), point((5, 1)), pull((2, 1, 1)))
        self.assertEqual(told[2:], [[1, 12, 1], [0], [1, 20, 1]])


if __name__ == "__main__":
    unittest.main()
