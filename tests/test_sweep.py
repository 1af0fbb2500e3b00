"""Promise 7: sweep."""

import unittest

from tests.helper import (BOTTOM, CONSTANT, INPUT, NEGATIVE, PRODUCT, SUM, TOP, ask, code, example_at_3_2, heavy_code,
                          last, point, sums, sweep, sweep_of_numbers, there_and_back, values, with_fault,
                          without_point)


class Sweep(unittest.TestCase):
    def test_the_example_line_by_line(self):
        told = ask(*example_at_3_2(), sweep(3, (3, 1, 1)), sweep(2, (3, 1, 1)), sweep(1, (3, 1, 1)),
                   sweep(0, (3, 1, 1)))
        self.assertEqual(told[2:], [[4, 1, 1, 0, 1, 1, 1, 1, 1]] + [[4, 3, 1, 3, 1, 1, 1, 1, 1]] * 3)

    def test_line_k_itself_is_passed_on(self):
        lines = [(INPUT, 0), (NEGATIVE, 0), (NEGATIVE, 1), (NEGATIVE, 2)]
        calls = [sweep(k, (3, 5, 1)) for k in (3, 2, 1, 0)]
        told = ask(code(1, lines), point((1, 1)), *calls)
        self.assertEqual(told[2:], [[4, 0, 1, 0, 1, -5, 1, 5, 1],
                                    [4, 0, 1, 5, 1, -5, 1, 5, 1],
                                    [4, -5, 1, 5, 1, -5, 1, 5, 1],
                                    [4, -5, 1, 5, 1, -5, 1, 5, 1]])

    def test_weights_on_lines_below_k_stand_there_already(self):
        lines = [(INPUT, 0), (NEGATIVE, 0), (SUM, 1, 1)]
        told = ask(code(1, lines), point((1, 1)), sweep(2, (0, 1, 2), (1, 7, 1), (2, 1, 1), (1, 1, 3)))
        self.assertEqual(told[2], [3, 1, 2, 28, 3, 1, 1])

    def test_a_line_in_both_places_is_passed_on_at_once(self):
        lines = [(INPUT, 0), (PRODUCT, 0, 0), (PRODUCT, 1, 1)]
        told = ask(code(1, lines), point((3, 1)), sweep(2, (2, 1, 1)), sweep(1, (2, 1, 1)))
        self.assertEqual(told[2:], [[3, 0, 1, 18, 1, 1, 1], [3, 108, 1, 18, 1, 1, 1]])

    def test_down_to_0_it_is_sums(self):
        threes = [(3, 1, 2), (2, -5, 3), (0, 1, 7)]
        told = ask(*example_at_3_2(), sweep(0, *threes), sums(*threes))
        self.assertEqual(told[2], told[3])

    def test_no_weights(self):
        for k in range(4):
            with self.subTest(k=k):
                self.assertEqual(last(*example_at_3_2(), sweep(k)), [4] + [0, 1] * 4)

    def test_no_inputs(self):
        told = last(code(0, [(CONSTANT, 3, 1), (NEGATIVE, 0)]), point(), sweep(1, (1, 5, 1)))
        self.assertEqual(told, [2, -5, 1, 5, 1])

    def test_eighty_lines(self):
        lines = [(INPUT, 0)] + [(SUM, k, k) for k in range(79)]
        told = last(code(1, lines), point((1, 3)), sweep(40, (79, 1, 1)))
        expected = [80]
        for k in range(80):
            expected += [2 ** (79 - k) if k >= 39 else 0, 1]
        self.assertEqual(told, expected)


class Weight(unittest.TestCase):
    def test_just_800_and_801(self):
        just = last(code(1, heavy_code((CONSTANT, 2 ** 6, 1))), point((0, 1)), sweep(7, (11, 1, 1)))
        self.assertEqual(just[:3], [12, 2 ** 798, 1])
        above = ask(code(1, heavy_code((CONSTANT, 2 ** 7, 1))), point((0, 1)), sweep(7, (11, 1, 1)))
        self.assertEqual(above[2], [-6])

    def test_only_what_is_told_counts(self):
        # The sum of line 0 gets too heavy when line 7 is passed on, not before.
        told = ask(code(1, heavy_code((CONSTANT, 2 ** 7, 1))), point((0, 1)), sweep(8, (11, 1, 1)))
        self.assertEqual(told[2], [12, 0, 1] + [0, 1] * 6 + [2 ** 601, 1, 2 ** 403, 1, 2 ** 205, 1, 2 ** 7, 1, 1, 1])

    def test_sums_between_count(self):
        told = ask(code(1, there_and_back()), point((0, 1)), sweep(12, (15, 1, 1)), sweep(11, (15, 1, 1)),
                   sweep(0, (15, 1, 1)))
        self.assertEqual(told[2][:1], [16])
        self.assertEqual(told[3:], [[-6], [-6]])


class Refused(unittest.TestCase):
    def test_no_such_line(self):
        for k in (-1, 4, BOTTOM, TOP):
            with self.subTest(k=k):
                self.assertEqual(last(*example_at_3_2(), sweep(k, (3, 1, 1))), [-1])

    def test_without_lines_there_is_no_k(self):
        self.assertEqual(ask(sweep(0), point(), sweep(0)), [[-1], [0], [-1]])

    def test_not_threes(self):
        for length in (1, 2, 4, 5, 400):
            with self.subTest(length=length):
                self.assertEqual(last(*example_at_3_2(), sweep_of_numbers(0, [1] * length)), [-2])

    def test_a_weight_on_no_line(self):
        for line in (-1, 4, TOP, BOTTOM):
            with self.subTest(line=line):
                self.assertEqual(last(*example_at_3_2(), sweep(3, (line, 1, 1))), [-2])

    def test_denominators_below_1(self):
        for denominator in (0, -1, BOTTOM):
            with self.subTest(denominator=denominator):
                self.assertEqual(last(*example_at_3_2(), sweep(3, (0, 1, denominator))), [-2])

    def test_no_point(self):
        self.assertEqual(ask(*without_point(), sweep(0), sweep(1, (0, 1, 1)))[1:], [[-4], [-4]])

    def test_a_fault(self):
        self.assertEqual(ask(*with_fault(), sweep(0), sweep(1, (0, 1, 1)))[2:], [[-5], [-5]])

    def test_k_before_the_form(self):
        self.assertEqual(last(*example_at_3_2(), sweep(4, (4, 1, 1))), [-1])
        self.assertEqual(last(*without_point(), sweep_of_numbers(-1, [0])), [-1])

    def test_k_before_the_point_and_the_fault(self):
        self.assertEqual(last(*without_point(), sweep(2)), [-1])
        self.assertEqual(last(*with_fault(), sweep(2)), [-1])

    def test_the_form_before_the_point_and_the_fault(self):
        self.assertEqual(last(*without_point(), sweep(0, (2, 1, 1))), [-2])
        self.assertEqual(last(*with_fault(), sweep(1, (0, 1, 0))), [-2])

    def test_everything_is_as_it_was_after_a_refusal(self):
        told = ask(*example_at_3_2(), sweep(4), sweep(3, (4, 1, 1)), sweep(3, (3, 1, 1)), values())
        self.assertEqual(told[2:], [[-1], [-2], [4, 1, 1, 0, 1, 1, 1, 1, 1], [4, 3, 1, 2, 1, 6, 1, 9, 1]])


if __name__ == "__main__":
    unittest.main()
