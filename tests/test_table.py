"""Promise 9: table."""

import unittest

from tests.helper import (BOTTOM, CONSTANT, INPUT, NEGATIVE, PRODUCT, SUM, TOP, ask, code, example_at_3_2, flat,
                          gradient, heavy_code, last, point, table, there_and_back, values, with_fault, without_point)


class Table(unittest.TestCase):
    def test_the_example(self):
        told = ask(*example_at_3_2(), table(3), table(2, 3), table(3, 2))
        self.assertEqual(told[2:], [[2, 3, 1, 3, 1],
                                    [4, 2, 1, 3, 1, 3, 1, 3, 1],
                                    [4, 3, 1, 3, 1, 2, 1, 3, 1]])

    def test_outs_told_more_than_once(self):
        told = last(*example_at_3_2(), table(2, 3, 2))
        self.assertEqual(told, [6, 2, 1, 3, 1, 3, 1, 3, 1, 2, 1, 3, 1])

    def test_outs_that_are_inputs(self):
        self.assertEqual(last(*example_at_3_2(), table(1, 0)), [4, 0, 1, 1, 1, 1, 1, 0, 1])

    def test_an_input_that_several_lines_are_and_one_that_none_is(self):
        lines = [(INPUT, 1), (INPUT, 1), (PRODUCT, 0, 1)]
        told = last(code(3, lines), point((4, 1), (5, 1), (6, 1)), table(2, 0))
        self.assertEqual(told, [6, 0, 1, 10, 1, 0, 1, 0, 1, 1, 1, 0, 1])

    def test_outs_that_are_constants(self):
        lines = [(INPUT, 0), (CONSTANT, 3, 1), (PRODUCT, 0, 1)]
        self.assertEqual(last(code(1, lines), point((1, 1)), table(1, 2)), [2, 0, 1, 3, 1])

    def test_no_outs(self):
        self.assertEqual(last(*example_at_3_2(), table()), [0])

    def test_no_inputs_and_no_lines(self):
        self.assertEqual(ask(point(), table()), [[0], [0]])
        self.assertEqual(last(code(0, [(CONSTANT, 3, 1)]), point(), table(0, 0)), [0])
        self.assertEqual(last(code(2, []), point((1, 1), (1, 1)), table()), [0])

    def test_twelve_outs(self):
        told = last(*example_at_3_2(), table(*[3, 2, 1] * 4))
        self.assertEqual(told, [24] + [3, 1, 3, 1, 2, 1, 3, 1, 0, 1, 1, 1] * 4)

    def test_row_by_row_it_is_the_gradients(self):
        told = ask(*example_at_3_2(), table(0, 1, 2, 3), *[gradient(i) for i in range(4)])
        self.assertEqual(told[2], [8] + flat([answer[1:] for answer in told[3:]]))


class Weight(unittest.TestCase):
    def test_just_800_and_801(self):
        just = last(code(1, heavy_code((CONSTANT, -2 ** 6, 1))), point((0, 1)), table(11, 0))
        self.assertEqual(just, [2, -2 ** 798, 1, 1, 1])
        above = code(1, heavy_code((CONSTANT, -2 ** 7, 1)))
        told = ask(above, point((0, 1)), table(0, 11, 10), table(11), table(0, 10))
        self.assertEqual(told[2:], [[-6], [-6], [2, 1, 1, 2 ** 792, 1]])

    def test_only_what_is_told_counts(self):
        told = ask(code(1, there_and_back()), point((0, 1)), table(15), table(15, 10))
        self.assertEqual(told[2:], [[1, 1, 1], [-6]])


class Refused(unittest.TestCase):
    def test_more_than_twelve_outs(self):
        for count in (13, 14, 200):
            with self.subTest(count=count):
                self.assertEqual(last(*example_at_3_2(), table(*[3] * count)), [-2])

    def test_no_such_line(self):
        for out in (-1, 4, TOP, BOTTOM):
            with self.subTest(out=out):
                self.assertEqual(last(*example_at_3_2(), table(out)), [-2])
                self.assertEqual(last(*example_at_3_2(), table(3, out, 2)), [-2])

    def test_a_new_object_has_no_lines(self):
        self.assertEqual(ask(table(0), table(), point(), table(0)), [[-2], [-4], [0], [-2]])

    def test_no_point(self):
        self.assertEqual(ask(*without_point(), table(), table(1))[1:], [[-4], [-4]])

    def test_a_fault_even_for_lines_ahead_of_it(self):
        self.assertEqual(ask(*with_fault(), table(), table(0), table(1))[2:], [[-5], [-5], [-5]])

    def test_the_form_before_the_point_and_the_fault(self):
        self.assertEqual(last(*without_point(), table(2)), [-2])
        self.assertEqual(last(*with_fault(), table(*[0] * 13)), [-2])

    def test_everything_is_as_it_was_after_a_refusal(self):
        told = ask(*example_at_3_2(), table(4), table(3), values())
        self.assertEqual(told[2:], [[-2], [2, 3, 1, 3, 1], [4, 3, 1, 2, 1, 6, 1, 9, 1]])


class Largest(unittest.TestCase):
    def test_eighty_lines_twelve_inputs_twelve_outs(self):
        # Line 12 + k is the sum of the lines before it by one and by twelve.
        lines = [(INPUT, k) for k in range(12)] + [(SUM, 11 + k, k) for k in range(68)]
        rows = [[int(k == i) for k in range(12)] for i in range(12)]
        for number in range(12, 80):
            rows.append([a + b for a, b in zip(rows[number - 1], rows[number - 12])])
        told = last(code(12, lines), point(*[(1, k + 1) for k in range(12)]), table(*range(68, 80)))
        self.assertEqual(told, [144] + flat([(number, 1) for row in rows[68:] for number in row]))

    def test_a_negative_after_a_negative(self):
        lines = [(INPUT, 0)] + [(NEGATIVE, k) for k in range(79)]
        told = last(code(1, lines), point((1, 2)), table(*range(68, 80)))
        self.assertEqual(told, [12] + [1, 1, -1, 1] * 6)


if __name__ == "__main__":
    unittest.main()
