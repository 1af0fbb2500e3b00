"""Promise 12: greedy."""

import unittest

from tests.helper import (BOTTOM, CONSTANT, DIFFERENCE, INPUT, NEGATIVE, PRODUCT, SUM, TOP, ask, code, eliminate,
                          example_at_3_2, greedy, heavy_code, last, point, values, with_fault, without_point)


class Greedy(unittest.TestCase):
    def told(self, n, lines, *outs):
        """What greedy answers where every input is 1."""
        return last(code(n, lines), point(*[(1, 1)] * n), greedy(*outs))

    def test_the_example(self):
        self.assertEqual(last(*example_at_3_2(), greedy(3)), [4, 1, 2, 3])

    def test_a_later_line_that_takes_less(self):
        lines = [(INPUT, 0), (INPUT, 1), (SUM, 0, 1), (NEGATIVE, 2)]
        self.assertEqual(self.told(2, lines, 3), [3, 0, 3, 2])

    def test_ends_count_among_the_ways_from_a_line(self):
        # Line 3 has 2 ways to it; one end keeps it even with line 2, none puts it first.
        told = ask(*example_at_3_2(), greedy(3, 3), greedy(2, 2, 2), greedy(2, 3))
        self.assertEqual(told[2:], [[6, 1, 2, 3], [6, 0, 3, 2], [6, 1, 3, 2]])

    def test_no_outs(self):
        self.assertEqual(last(*example_at_3_2(), greedy()), [0, 0, 3, 2])

    def test_ties_go_to_the_least_number(self):
        lines = [(INPUT, 0)] + [(NEGATIVE, 0)] * 5 + [(SUM, 1, 2)]
        self.assertEqual(self.told(1, lines, 1, 2, 3, 4, 5), [5, 0, 6, 1, 2, 3, 4, 5])
        chain = [(INPUT, 0)] + [(NEGATIVE, k) for k in range(6)]
        self.assertEqual(self.told(1, chain, 6), [6, 0, 1, 2, 3, 4, 5, 6])

    def test_ways_are_counted_anew_after_each_line(self):
        # Line 1 has 1 way to it and 3 from it; once lines 2 and 3 are gone, both ways have run into one to line 4.
        lines = [(INPUT, 0), (NEGATIVE, 0), (NEGATIVE, 1), (NEGATIVE, 1), (SUM, 2, 3)]
        self.assertEqual(self.told(1, lines, 4), [4, 1, 2, 3, 1, 4])

    def test_constants_take_nothing(self):
        lines = [(INPUT, 0), (NEGATIVE, 0), (CONSTANT, 5, 1), (PRODUCT, 1, 2)]
        self.assertEqual(self.told(1, lines, 3), [2, 0, 2, 1, 3])

    def test_constants_and_what_hangs_on_them_alone(self):
        lines = [(CONSTANT, 5, 1), (NEGATIVE, 0), (INPUT, 0), (SUM, 1, 2)]
        self.assertEqual(self.told(1, lines, 3), [1, 0, 0, 1, 3])

    def test_lines_that_lead_to_no_out_take_nothing(self):
        lines = [(INPUT, 0), (NEGATIVE, 0), (NEGATIVE, 0), (NEGATIVE, 2)]
        self.assertEqual(self.told(1, lines, 1), [1, 0, 3, 2, 1])

    def test_a_line_in_both_places_is_one_way(self):
        lines = [(INPUT, 0), (INPUT, 1), (SUM, 0, 1), (SUM, 0, 0), (SUM, 2, 3)]
        self.assertEqual(self.told(2, lines, 4), [5, 1, 3, 2, 4])

    def test_ways_worth_0_are_ways(self):
        lines = [(INPUT, 0), (INPUT, 1), (DIFFERENCE, 0, 0), (PRODUCT, 2, 1), (SUM, 3, 0)]
        self.assertEqual(self.told(2, lines, 4), [5, 1, 2, 3, 4])
        told = last(code(2, lines), point((0, 1), (0, 1)), greedy(4))
        self.assertEqual(told, [5, 1, 2, 3, 4])

    def test_outs_that_are_inputs_or_constants(self):
        lines = [(INPUT, 0), (CONSTANT, 5, 1), (PRODUCT, 0, 1), (NEGATIVE, 2)]
        self.assertEqual(self.told(1, lines, 0, 1), [0, 0, 1, 3, 2])

    def test_no_lines_and_no_inputs(self):
        self.assertEqual(ask(point(), greedy()), [[0], [0, 0]])
        self.assertEqual(self.told(2, []), [0, 0])
        self.assertEqual(self.told(2, [(INPUT, 1), (INPUT, 0)], 1, 0), [0, 0])
        self.assertEqual(self.told(0, [(CONSTANT, 1, 1), (NEGATIVE, 0)], 1), [0, 0, 0, 1])

    def test_nothing_is_too_heavy(self):
        told = ask(code(1, heavy_code((CONSTANT, 2 ** 7, 1))), point((0, 1)), eliminate([11], list(range(1, 12))),
                   greedy(11))
        self.assertEqual(told[2:], [[-6], [5, 0, 1, 2, 3, 4, 5, 6, 7, 8, 9, 10, 11]])

    def test_eliminate_in_that_order_counts_the_same(self):
        for outs in ([3], [3, 3], [2, 3], [0], []):
            with self.subTest(outs=outs):
                told = last(*example_at_3_2(), greedy(*outs))
                self.assertEqual(last(*example_at_3_2(), eliminate(outs, told[2:]))[:2], told[:2])


class Refused(unittest.TestCase):
    def test_more_than_twelve_outs(self):
        self.assertEqual(last(*example_at_3_2(), greedy(*[3] * 12)), [26, 1, 2, 3])
        for count in (13, 14, 200):
            with self.subTest(count=count):
                self.assertEqual(last(*example_at_3_2(), greedy(*[3] * count)), [-2])

    def test_no_such_line(self):
        for out in (-1, 4, TOP, BOTTOM):
            with self.subTest(out=out):
                self.assertEqual(last(*example_at_3_2(), greedy(3, out)), [-2])

    def test_a_new_object_has_no_lines(self):
        self.assertEqual(ask(greedy(0), greedy(), point(), greedy(0)), [[-2], [-4], [0], [-2]])

    def test_no_point(self):
        self.assertEqual(ask(*without_point(), greedy(), greedy(1))[1:], [[-4], [-4]])

    def test_a_fault(self):
        self.assertEqual(ask(*with_fault(), greedy(), greedy(0), greedy(1))[2:], [[-5], [-5], [-5]])

    def test_the_form_before_the_point_and_the_fault(self):
        self.assertEqual(last(*without_point(), greedy(2)), [-2])
        self.assertEqual(last(*with_fault(), greedy(*[0] * 13)), [-2])

    def test_everything_is_as_it_was_after_a_refusal(self):
        told = ask(*example_at_3_2(), greedy(4), greedy(3), values())
        self.assertEqual(told[2:], [[-2], [4, 1, 2, 3], [4, 3, 1, 2, 1, 6, 1, 9, 1]])


class Largest(unittest.TestCase):
    def test_eighty_lines_twelve_inputs_twelve_outs(self):
        lines = [(INPUT, k) for k in range(12)] + [(SUM, 11 + k, k) for k in range(68)]
        outs = list(range(68, 80))
        start = [code(12, lines), point(*[(1, 1)] * 12)]
        told = last(*start, greedy(*outs))
        self.assertEqual(sorted(told[2:]), list(range(12, 80)))
        self.assertEqual(last(*start, eliminate(outs, told[2:]))[:2], told[:2])


if __name__ == "__main__":
    unittest.main()
