"""The interface: how calls lie in the list, how answers are told, and that nothing is kept."""

import unittest

from tapesweep.desk import answers
from tests.helper import (BOTTOM, CONSTANT, EXAMPLE, INPUT, NEGATIVE, PRODUCT, SUM, TOP, ask, code, code_of_numbers,
                          example_at_3_2, flat, gradient, point, point_of_numbers, pull, pull_of_numbers, tape, value,
                          values)


class Layout(unittest.TestCase):
    def test_the_example_number_by_number(self):
        calls = [0, 2, 10, 0, 0, 0, 1, 4, 0, 1, 2, 2, 0,
                 1, 4, 3, 1, 2, 1,
                 2, 3,
                 3,
                 4,
                 5, 3,
                 6, 3, 3, 1, 1]
        self.assertEqual(answers(calls), [1, 4,
                                          1, 0,
                                          3, 1, 9, 1,
                                          9, 4, 3, 1, 2, 1, 6, 1, 9, 1,
                                          13, 4, 0, 0, 2, 2, 2, 1, 3, 1, 1, 1, 1, 1,
                                          5, 2, 3, 1, 3, 1,
                                          5, 2, 3, 1, 3, 1])

    def test_refusals_and_faults_number_by_number(self):
        calls = [2, 0,
                 0, 1, 5, 0, 0, 5, 0, 0,
                 5, 0,
                 1, 2, 0, 1,
                 4]
        self.assertEqual(answers(calls), [1, -1,
                                          1, 2,
                                          1, -4,
                                          3, 1, 1, 1,
                                          1, -5])

    def test_empty_rows(self):
        self.assertEqual(answers([0, 0, 0, 1, 0, 6, 0, 3, 4]), [1, 0, 1, 0, 1, 0, 1, 0, 1, 0])

    def test_it_gives_back_a_list(self):
        self.assertIs(type(answers([3])), list)


class Beginning(unittest.TestCase):
    def test_each_call_may_be_the_first(self):
        firsts = [(code(2, EXAMPLE), [4]), (point(), [0]), (value(0), [-1]), (values(), [-4]), (tape(), [-4]),
                  (gradient(0), [-1]), (pull(), [-4])]
        for call, answer in firsts:
            with self.subTest(call=call):
                self.assertEqual(ask(call), [answer])

    def test_nothing_is_kept_from_one_time_to_the_next(self):
        for start in (example_at_3_2(), [code(0, []), point()], [code(12, [])]):
            ask(*start)
            self.assertEqual(ask(values(), value(0), point(), values()), [[-4], [-1], [0], [0]])

    def test_the_same_list_twice(self):
        calls = flat(example_at_3_2() + [values(), tape(), gradient(3), pull((3, 1, 2)), value(9), code(13, [])])
        kept = list(calls)
        first = answers(calls)
        self.assertEqual(calls, kept)
        self.assertEqual(answers(calls), first)
        self.assertEqual(calls, kept)

    def test_what_was_given_back_may_be_changed(self):
        calls = flat(example_at_3_2() + [values(), tape()])
        first = answers(calls)
        kept = list(first)
        first.clear()
        self.assertEqual(answers(calls), kept)


class Refusals(unittest.TestCase):
    def test_after_every_refusal_everything_is_as_it_was(self):
        shown = [values(), tape(), gradient(3), pull((3, 1, 2), (2, 1, 3))]
        before = ask(*example_at_3_2(), *shown)[2:]
        refused = [code(13, []), code_of_numbers(2, [7]), code(2, [(INPUT, 0)] * 81), code(2, [(NEGATIVE, 0)]),
                   point_of_numbers([1]), point((1, 1), (1, 0)), value(4), value(-1), gradient(4),
                   pull_of_numbers([1]), pull((4, 1, 1)), pull((0, 1, 0))]
        for call in refused:
            with self.subTest(call=call):
                told = ask(*example_at_3_2(), call, *shown)
                self.assertEqual(len(told[2]), 1)
                self.assertLess(told[2][0], 0)
                self.assertEqual(told[3:], before)


class Ends(unittest.TestCase):
    def test_four_hundred_calls(self):
        calls = example_at_3_2()
        expected = [[4], [0]]
        for k in range(199):
            calls.append(point((k, 1), (-k, 1)))
            calls.append(gradient(3))
            expected.append([0])
            expected.append([2, 1 - k, 1, k, 1])
        self.assertEqual(len(calls), 400)
        self.assertEqual(ask(*calls), expected)

    def test_as_long_a_list_as_may_come(self):
        calls = [code(1, [(INPUT, 0), (NEGATIVE, 0)]), point((1, 1))]
        calls += [pull(*[(k % 2, 1, 1) for k in range(133)])] * 42
        self.assertLessEqual(len(flat(calls)), 17000)
        self.assertEqual(ask(*calls)[2:], [[1, 1, 1]] * 42)

    def test_both_ends_of_the_range_everywhere(self):
        for end in (TOP, BOTTOM):
            with self.subTest(end=end):
                told = ask(*example_at_3_2(), code(end, []), value(end), gradient(end), pull((end, end, end)),
                           pull((3, end, TOP)), point((end, TOP), (end, 1)), values(),
                           code(0, [(CONSTANT, end, TOP), (CONSTANT, end, 1)]), point(), values(),
                           code_of_numbers(1, [end] * 400), point_of_numbers([end] * 200))
                one = end // TOP
                self.assertEqual(told[2:6], [[-1], [-1], [-1], [-2]])
                self.assertEqual(told[6:9], [[2, 3 * one, 1, 3 * one, 1], [0],
                                             [4, one, 1, end, 1, TOP, 1, TOP + one, 1]])
                self.assertEqual(told[9:], [[2], [0], [2, one, 1, end, 1], [-2], [-2]])

    def test_eighty_lines_that_all_hang_together(self):
        lines = [(INPUT, 0), (INPUT, 1)] + [(SUM, k, k + 1) for k in range(78)]
        fibonacci = [0, 1]
        while len(fibonacci) < 80:
            fibonacci.append(fibonacci[-1] + fibonacci[-2])
        told = ask(code(2, lines), point((0, 1), (1, 1)), values(), gradient(79))
        self.assertEqual(told[2], [80] + flat([(number, 1) for number in fibonacci]))
        self.assertEqual(told[3], [2, fibonacci[78], 1, fibonacci[79], 1])

    def test_long_sums_are_not_slow(self):
        # Every product doubles the ways back to the inputs and lengthens the fractions; worked
        # out way by way, or with fractions that aren't in lowest terms, this would never end.
        lines = [(INPUT, 0), (INPUT, 1), (CONSTANT, TOP - 11, TOP - 33), (CONSTANT, TOP - 123, TOP - 203)]
        while len(lines) + 3 <= 80:
            count = len(lines)
            older = 0 if count == 4 else (1 if count == 7 else count - 4)
            newer = 1 if count == 4 else count - 1
            lines += [(PRODUCT, older, 2), (PRODUCT, newer, 3), (SUM, count, count + 1)]
        told = ask(code(2, lines), point((0, 1), (0, 1)), *[gradient(len(lines) - 1)] * 20)
        self.assertEqual(told[1:], [[0]] + [[-6]] * 20)


if __name__ == "__main__":
    unittest.main()
