"""Promise 4: tape."""

import unittest

from tests.helper import (CONSTANT, DIFFERENCE, INPUT, NEGATIVE, PRODUCT, QUOTIENT, SUM,
                          ask, code, example_at_3_2, last, point, tape, with_fault, without_point)


class Tape(unittest.TestCase):
    def test_the_example(self):
        self.assertEqual(last(*example_at_3_2(), tape()), [4, 0, 0, 2, 2, 2, 1, 3, 1, 1, 1, 1, 1])

    def own(self, line):
        """What tape tells of a line on input 0, which is 3/2, and input 1, which is -5/7."""
        lines = [(INPUT, 0), (INPUT, 1), line]
        told = last(code(2, lines), point((3, 2), (-10, 14)), tape())
        self.assertEqual(told[:3], [3, 0, 0])
        return told[3:]

    def test_inputs_and_constants_have_none(self):
        self.assertEqual(self.own((INPUT, 0)), [0])
        self.assertEqual(self.own((CONSTANT, 4, 6)), [0])

    def test_a_sum(self):
        self.assertEqual(self.own((SUM, 0, 1)), [2, 1, 1, 1, 1])

    def test_a_difference(self):
        self.assertEqual(self.own((DIFFERENCE, 0, 1)), [2, 1, 1, -1, 1])

    def test_a_product(self):
        self.assertEqual(self.own((PRODUCT, 0, 1)), [2, -5, 7, 3, 2])
        self.assertEqual(self.own((PRODUCT, 1, 0)), [2, 3, 2, -5, 7])

    def test_a_quotient(self):
        self.assertEqual(self.own((QUOTIENT, 0, 1)), [2, -7, 5, -147, 50])
        self.assertEqual(self.own((QUOTIENT, 1, 0)), [2, 2, 3, 20, 63])

    def test_a_negative(self):
        self.assertEqual(self.own((NEGATIVE, 1)), [1, -1, 1])

    def test_a_line_in_both_places_has_two(self):
        self.assertEqual(self.own((SUM, 0, 0)), [2, 1, 1, 1, 1])
        self.assertEqual(self.own((DIFFERENCE, 0, 0)), [2, 1, 1, -1, 1])
        self.assertEqual(self.own((PRODUCT, 0, 0)), [2, 3, 2, 3, 2])
        self.assertEqual(self.own((QUOTIENT, 0, 0)), [2, 2, 3, -2, 3])

    def test_own_derivatives_of_0(self):
        lines = [(INPUT, 0), (CONSTANT, 7, 1), (PRODUCT, 0, 1), (QUOTIENT, 0, 1)]
        told = last(code(1, lines), point((0, 5)), tape())
        self.assertEqual(told, [4, 0, 0, 2, 2, 7, 1, 0, 1, 1, 7, 0, 1])

    def test_first_all_counts_then_all_fractions(self):
        lines = [(INPUT, 0), (NEGATIVE, 0), (CONSTANT, 1, 2), (PRODUCT, 1, 2), (NEGATIVE, 3)]
        told = last(code(1, lines), point((3, 1)), tape())
        self.assertEqual(told, [5, 0, 1, 0, 2, 1, -1, 1, 1, 2, -3, 1, -1, 1])

    def test_the_heaviest_quotient_is_told(self):
        # 3^62 over 2^100 by 2^100 over 3^62: all weights here stay below 800, whatever the code.
        lines = [(CONSTANT, 2 ** 50, 1), (PRODUCT, 0, 0), (CONSTANT, 3 ** 31, 1), (PRODUCT, 2, 2), (QUOTIENT, 3, 1),
                 (CONSTANT, 1, 1), (QUOTIENT, 5, 4), (QUOTIENT, 5, 6)]
        told = last(code(0, lines), point(), tape())
        self.assertEqual(told[:9], [8, 0, 2, 0, 2, 2, 0, 2, 2])
        self.assertEqual(told[-4:], [3 ** 62, 2 ** 100, -3 ** 124, 2 ** 200])

    def test_eighty_lines(self):
        told = last(code(1, [(INPUT, 0)] + [(SUM, 0, 0)] * 79), point((1, 1)), tape())
        self.assertEqual(told, [80, 0] + [2] * 79 + [1, 1, 1, 1] * 79)

    def test_no_lines(self):
        self.assertEqual(ask(tape(), point(), tape()), [[-4], [0], [0]])

    def test_the_tape_follows_the_point(self):
        told = ask(*example_at_3_2(), point((5, 1), (7, 1)), tape())
        self.assertEqual(told[-1], [4, 0, 0, 2, 2, 7, 1, 5, 1, 1, 1, 1, 1])

    def test_no_point(self):
        self.assertEqual(last(*without_point(), tape()), [-4])

    def test_a_fault(self):
        self.assertEqual(last(*with_fault(), tape()), [-5])
        self.assertEqual(last(*example_at_3_2(), *with_fault(), tape()), [-5])


if __name__ == "__main__":
    unittest.main()
