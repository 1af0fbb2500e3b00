"""Promise 1: code."""

import unittest

from tests.helper import (BOTTOM, CONSTANT, DIFFERENCE, EXAMPLE, INPUT, NEGATIVE, PRODUCT, QUOTIENT, SUM, TOP,
                          ask, code, code_of_numbers, last, point, tape, value, values)


class Taken(unittest.TestCase):
    def test_the_example_has_four_lines(self):
        self.assertEqual(ask(code(2, EXAMPLE)), [[4]])

    def test_each_kind_of_line(self):
        lines = [(INPUT, 0), (CONSTANT, 1, 2), (SUM, 0, 1), (DIFFERENCE, 0, 1), (PRODUCT, 0, 1),
                 (QUOTIENT, 0, 1), (NEGATIVE, 0)]
        for count in range(len(lines) + 1):
            with self.subTest(count=count):
                self.assertEqual(ask(code(1, lines[:count])), [[count]])

    def test_no_lines(self):
        for n in (0, 1, 12):
            with self.subTest(n=n):
                self.assertEqual(ask(code(n, [])), [[0]])

    def test_eighty_lines(self):
        self.assertEqual(ask(code(1, [(INPUT, 0)] * 80)), [[80]])
        self.assertEqual(ask(code(0, [(CONSTANT, 1, 1)] + [(SUM, 0, 0)] * 79)), [[80]])

    def test_n_of_0_and_12(self):
        self.assertEqual(ask(code(0, [(CONSTANT, 1, 1)])), [[1]])
        self.assertEqual(ask(code(12, [(INPUT, k) for k in range(12)])), [[12]])

    def test_the_same_line_in_both_places(self):
        for kind in (SUM, DIFFERENCE, PRODUCT, QUOTIENT):
            with self.subTest(kind=kind):
                self.assertEqual(ask(code(1, [(INPUT, 0), (kind, 0, 0)])), [[2]])

    def test_constants_of_any_number(self):
        lines = [(CONSTANT, TOP, TOP), (CONSTANT, BOTTOM, 1), (CONSTANT, 0, TOP), (CONSTANT, -4, 6)]
        self.assertEqual(ask(code(0, lines)), [[4]])

    def test_later_code_takes_the_place_of_earlier(self):
        told = ask(code(2, EXAMPLE), code(0, [(CONSTANT, 5, 1)]), point(), values())
        self.assertEqual(told, [[4], [1], [0], [1, 5, 1]])

    def test_code_takes_the_point_away(self):
        lines = [(CONSTANT, 5, 1)]
        told = ask(code(0, lines), point(), value(0), code(0, lines), value(0), values(), tape())
        self.assertEqual(told, [[1], [0], [1, 5, 1], [1], [-4], [-4], [-4]])

    def test_code_takes_a_point_with_a_fault_away(self):
        fault = [(CONSTANT, 0, 1), (QUOTIENT, 0, 0)]
        told = ask(code(0, fault), point(), values(), code(0, []), values(), point(), values())
        self.assertEqual(told, [[2], [1, 1, 1], [-5], [0], [-4], [0], [0]])


class Refused(unittest.TestCase):
    def test_n_outside_0_to_12(self):
        for n in (-1, 13, TOP, BOTTOM):
            with self.subTest(n=n):
                self.assertEqual(ask(code(n, [])), [[-1]])

    def test_no_such_kind(self):
        for kind in (-1, 7, TOP, BOTTOM):
            with self.subTest(kind=kind):
                self.assertEqual(ask(code_of_numbers(2, [0, 0, kind, 0, 0])), [[-2]])

    def test_numbers_missing_at_the_end(self):
        for line in ((INPUT, 0), (CONSTANT, 1, 1), (SUM, 0, 0), (DIFFERENCE, 0, 0), (PRODUCT, 0, 0),
                     (QUOTIENT, 0, 0), (NEGATIVE, 0)):
            for kept in range(1, len(line)):
                with self.subTest(line=line, kept=kept):
                    self.assertEqual(ask(code_of_numbers(1, (0, 0) + line[:kept])), [[-2]])

    def test_a_number_too_many(self):
        self.assertEqual(ask(code_of_numbers(1, [0, 0, 0])), [[-2]])
        self.assertEqual(ask(code_of_numbers(1, [0, 0, 6, 0, 9])), [[-2]])

    def test_lines_and_inputs_below_0(self):
        for line in ((INPUT, -1), (SUM, -1, 0), (SUM, 0, -1), (DIFFERENCE, 0, -1), (PRODUCT, -1, 0),
                     (QUOTIENT, 0, BOTTOM), (NEGATIVE, -1), (INPUT, BOTTOM)):
            with self.subTest(line=line):
                self.assertEqual(ask(code(1, [(INPUT, 0), line])), [[-2]])

    def test_a_constants_denominator_below_1(self):
        for denominator in (0, -1, BOTTOM):
            with self.subTest(denominator=denominator):
                self.assertEqual(ask(code(0, [(CONSTANT, 1, denominator)])), [[-2]])

    def test_more_than_eighty_lines(self):
        self.assertEqual(ask(code(1, [(INPUT, 0)] * 81)), [[-7]])
        self.assertEqual(ask(code(0, [(CONSTANT, 1, 1)] * 81)), [[-7]])

    def test_four_hundred_numbers(self):
        self.assertEqual(ask(code_of_numbers(1, [0] * 400)), [[-7]])
        threes = [(CONSTANT, TOP, TOP)] * 132 + [(INPUT, 0)] * 2
        self.assertEqual(ask(code(1, threes)), [[-7]])
        self.assertEqual(ask(code_of_numbers(1, [0] * 398 + [0, -1])), [[-2]])

    def test_a_line_that_is_not_earlier(self):
        for line in ((SUM, 1, 0), (SUM, 0, 1), (DIFFERENCE, 0, 2), (PRODUCT, 2, 0), (QUOTIENT, 0, TOP),
                     (NEGATIVE, 1), (NEGATIVE, TOP)):
            with self.subTest(line=line):
                self.assertEqual(ask(code(1, [(INPUT, 0), line, (INPUT, 0)])), [[-3]])

    def test_the_first_line_can_use_none(self):
        self.assertEqual(ask(code(1, [(NEGATIVE, 0)])), [[-3]])
        self.assertEqual(ask(code(1, [(SUM, 0, 0)])), [[-3]])

    def test_an_input_that_is_not_one_of_the_n(self):
        for n, k in ((0, 0), (1, 1), (2, 2), (11, 11), (12, 12), (12, TOP)):
            with self.subTest(n=n, k=k):
                self.assertEqual(ask(code(n, [(INPUT, k)])), [[-3]])


class Order(unittest.TestCase):
    def test_n_before_the_form(self):
        self.assertEqual(ask(code_of_numbers(13, [7])), [[-1]])

    def test_n_before_the_number_of_lines_and_the_uses(self):
        self.assertEqual(ask(code(-1, [(INPUT, 0)] * 81)), [[-1]])
        self.assertEqual(ask(code(13, [(NEGATIVE, 0)])), [[-1]])

    def test_the_form_before_the_number_of_lines(self):
        self.assertEqual(ask(code_of_numbers(1, [0, 0] * 81 + [7])), [[-2]])
        self.assertEqual(ask(code(1, [(INPUT, 0)] * 81 + [(CONSTANT, 1, 0)])), [[-2]])

    def test_the_form_before_the_uses(self):
        self.assertEqual(ask(code_of_numbers(1, [6, 0, 7])), [[-2]])
        self.assertEqual(ask(code(1, [(NEGATIVE, 5), (INPUT, -1)])), [[-2]])

    def test_the_number_of_lines_before_the_uses(self):
        self.assertEqual(ask(code(0, [(INPUT, 0)] * 81)), [[-7]])


class AfterRefusal(unittest.TestCase):
    def test_code_and_point_stay(self):
        refused = [code(13, []), code_of_numbers(2, [7]), code(2, [(INPUT, 0)] * 81), code(0, [(INPUT, 0)])]
        for number, call in zip((-1, -2, -7, -3), refused):
            with self.subTest(number=number):
                told = ask(code(2, EXAMPLE), point((3, 1), (2, 1)), call, values())
                self.assertEqual(told[2:], [[number], [4, 3, 1, 2, 1, 6, 1, 9, 1]])

    def test_no_point_stays_no_point(self):
        self.assertEqual(last(code(2, EXAMPLE), code(13, []), values()), [-4])
        self.assertEqual(last(code(2, EXAMPLE), code(13, []), point((3, 1), (2, 1))), [0])


if __name__ == "__main__":
    unittest.main()
