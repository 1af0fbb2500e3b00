"""The interface: how calls lie in the list, how answers are told, and that nothing is kept."""

import random
import unittest

from tapesweep.desk import answers
from tests.helper import (BOTTOM, CONSTANT, EXAMPLE, INPUT, NEGATIVE, PRODUCT, SUM, TOP, along, along_of_numbers, ask,
                          code, code_of_numbers, cost, cost_of_numbers, eliminate, example_at_3_2, flat, gradient,
                          greedy, heavy_code, point, point_of_numbers, pull, pull_of_numbers, sums, sums_of_numbers,
                          sweep, sweep_of_numbers, table, tape, value, values)

# Every call that changes nothing, on the example, with what it answers at the point 3, 2.
SHOWN = [(value(3), [1, 9, 1]),
         (values(), [4, 3, 1, 2, 1, 6, 1, 9, 1]),
         (tape(), [4, 0, 0, 2, 2, 2, 1, 3, 1, 1, 1, 1, 1]),
         (gradient(3), [2, 3, 1, 3, 1]),
         (pull((3, 1, 2), (2, 1, 3)), [2, 13, 6, 5, 2]),
         (sums((3, 1, 2), (2, 1, 3)), [4, 13, 6, 5, 2, 5, 6, 1, 2]),
         (sweep(3, (3, 1, 2), (2, 1, 3)), [4, 1, 2, 0, 1, 5, 6, 1, 2]),
         (cost((3, 1, 1)), [2, 6]),
         (table(2, 3), [4, 2, 1, 3, 1, 3, 1, 3, 1]),
         (along(3, (1, 2), (1, 3)), [1, 5, 2]),
         (eliminate([3, 3], [3, 2]), [8, 2] + [3, 1] * 4),
         (greedy(3), [4, 1, 2, 3])]


class Layout(unittest.TestCase):
    def test_the_example_number_by_number(self):
        calls = [0, 2, 10, 0, 0, 0, 1, 4, 0, 1, 2, 2, 0,
                 1, 4, 3, 1, 2, 1,
                 2, 3,
                 3,
                 4,
                 5, 3,
                 6, 3, 3, 1, 1]
        self.assertEqual(answers(calls), [1, 4,
                                          1, 0,
                                          3, 1, 9, 1,
                                          9, 4, 3, 1, 2, 1, 6, 1, 9, 1,
                                          13, 4, 0, 0, 2, 2, 2, 1, 3, 1, 1, 1, 1, 1,
                                          5, 2, 3, 1, 3, 1,
                                          5, 2, 3, 1, 3, 1])

    def test_the_example_whole(self):
        calls = [0, 2, 10, 0, 0, 0, 1, 4, 0, 1, 2, 2, 0,
                 1, 4, 3, 1, 2, 1,
                 4,
                 5, 3,
                 9, 3, 3, 1, 1,
                 12, 1, 3, 2, 2, 3,
                 13, 1, 3]
        self.assertEqual(answers(calls), [1, 4,
                                          1, 0,
                                          13, 4, 0, 0, 2, 2, 2, 1, 3, 1, 1, 1, 1, 1,
                                          5, 2, 3, 1, 3, 1,
                                          2, 2, 6,
                                          6, 4, 1, 3, 1, 3, 1,
                                          4, 4, 1, 2, 3])

    def test_the_calls_from_7_on_number_by_number(self):
        calls = [0, 2, 10, 0, 0, 0, 1, 4, 0, 1, 2, 2, 0,
                 1, 4, 3, 1, 2, 1,
                 7, 3, 3, 1, 1,
                 8, 3, 6, 3, 1, 1, 1, 1, 2,
                 9, 0,
                 10, 2, 3, 0,
                 11, 2, 4, 1, 2, -1, 3,
                 12, 0, 2, 3, 2,
                 12, 2, 2, 2, 2, 2, 3,
                 13, 0,
                 8, 4, 0,
                 12, 1, 3, 0,
                 10, 1, 4]
        self.assertEqual(answers(calls), [1, 4,
                                          1, 0,
                                          9, 4, 3, 1, 3, 1, 1, 1, 1, 1,
                                          9, 4, 1, 1, 1, 2, 1, 1, 1, 1,
                                          2, 2, 0,
                                          9, 4, 3, 1, 3, 1, 1, 1, 0, 1,
                                          3, 1, 0, 1,
                                          2, 0, 0,
                                          10, 6, 1, 2, 1, 3, 1, 2, 1, 3, 1,
                                          4, 0, 0, 3, 2,
                                          1, -1,
                                          1, -2,
                                          1, -2])

    def test_refusals_and_faults_number_by_number(self):
        calls = [2, 0,
                 0, 1, 5, 0, 0, 5, 0, 0,
                 5, 0,
                 1, 2, 0, 1,
                 4]
        self.assertEqual(answers(calls), [1, -1,
                                          1, 2,
                                          1, -4,
                                          3, 1, 1, 1,
                                          1, -5])

    def test_empty_rows(self):
        self.assertEqual(answers([0, 0, 0, 1, 0, 6, 0, 3, 4]), [1, 0, 1, 0, 1, 0, 1, 0, 1, 0])
        self.assertEqual(answers([1, 0, 7, 0, 9, 0, 10, 0, 12, 0, 0, 13, 0]),
                         [1, 0, 1, 0, 2, 0, 0, 1, 0, 2, 0, 0, 2, 0, 0])

    def test_it_gives_back_a_list(self):
        self.assertIs(type(answers([3])), list)


class Beginning(unittest.TestCase):
    def test_each_call_may_be_the_first(self):
        firsts = [(code(2, EXAMPLE), [4]), (point(), [0]), (value(0), [-1]), (values(), [-4]), (tape(), [-4]),
                  (gradient(0), [-1]), (pull(), [-4]), (sums(), [-4]), (sweep(0), [-1]), (cost(), [-4]),
                  (table(), [-4]), (along(0), [-1]), (eliminate([], []), [-4]), (greedy(), [-4])]
        for call, answer in firsts:
            with self.subTest(call=call):
                self.assertEqual(ask(call), [answer])

    def test_nothing_is_kept_from_one_time_to_the_next(self):
        for start in (example_at_3_2(), [code(0, []), point()], [code(12, [])]):
            ask(*start)
            self.assertEqual(ask(values(), value(0), point(), values()), [[-4], [-1], [0], [0]])

    def test_the_same_list_twice(self):
        calls = flat(example_at_3_2() + [call for call, answer in SHOWN] + [value(9), code(13, [])])
        kept = list(calls)
        first = answers(calls)
        self.assertEqual(calls, kept)
        self.assertEqual(answers(calls), first)
        self.assertEqual(calls, kept)

    def test_what_was_given_back_may_be_changed(self):
        calls = flat(example_at_3_2() + [values(), tape()])
        first = answers(calls)
        kept = list(first)
        first.clear()
        self.assertEqual(answers(calls), kept)


class AnyOrder(unittest.TestCase):
    def test_calls_that_change_nothing_in_any_order(self):
        source = random.Random(20)
        for k in range(60):
            drawn = [source.choice(SHOWN) for j in range(30)]
            told = ask(*example_at_3_2(), *[call for call, answer in drawn])
            self.assertEqual(told[2:], [answer for call, answer in drawn])

    def test_code_and_point_between_them(self):
        told = ask(*example_at_3_2(), sums((3, 1, 1)), point((5, 1), (7, 1)), sums((3, 1, 1)), eliminate([3], [2, 3]),
                   code(1, [(INPUT, 0), (PRODUCT, 0, 0)]), sums((1, 1, 1)), greedy(1), point((4, 1)), sums((1, 1, 1)),
                   eliminate([3], [2, 3]), eliminate([1], [1]), greedy(1), table(1), along(1, (1, 2)), cost((1, 1, 1)),
                   sweep(1, (1, 1, 1)), sweep(3))
        self.assertEqual(told[2:], [[4, 3, 1, 3, 1, 1, 1, 1, 1], [0], [4, 8, 1, 5, 1, 1, 1, 1, 1],
                                    [4, 1, 8, 1, 5, 1], [2], [-4], [-4], [0], [2, 8, 1, 1, 1], [-2], [1, 0, 8, 1],
                                    [1, 0, 1], [1, 8, 1], [1, 4, 1], [1, 4], [2, 8, 1, 1, 1], [-1]])

    def test_a_fault_between_them(self):
        lines = [(INPUT, 0), (CONSTANT, 1, 1), (5, 1, 0)]
        asked = [sums((2, 1, 1)), sweep(2, (2, 1, 1)), cost((2, 1, 1)), table(2), along(2, (1, 1)),
                 eliminate([2], [2, 1]), greedy(2)]
        told = ask(code(1, lines), point((2, 1)), *asked, point((0, 1)), *asked, point((2, 1)), *asked)
        self.assertEqual(told[2:9], [[3, -1, 4, 1, 2, 1, 1], [3, -1, 4, 1, 2, 1, 1], [1, 4], [1, -1, 4], [1, -1, 4],
                                     [2, 0, -1, 4], [1, 0, 1, 2]])
        self.assertEqual(told[9:17], [[1, 2, 1]] + [[-5]] * 7)
        self.assertEqual(told[17:], [[0]] + told[2:9])


class Refusals(unittest.TestCase):
    def check_refused(self, start, refused, shown):
        before = ask(*start, *shown)[2:]
        for call in refused:
            with self.subTest(call=call):
                told = ask(*start, call, *shown)
                self.assertEqual(len(told[2]), 1)
                self.assertLess(told[2][0], 0)
                self.assertEqual(told[3:], before)

    def test_after_every_refusal_everything_is_as_it_was(self):
        refused = [code(13, []), code_of_numbers(2, [7]), code(2, [(INPUT, 0)] * 81), code(2, [(NEGATIVE, 0)]),
                   point_of_numbers([1]), point((1, 1), (1, 0)), value(4), value(-1), gradient(4),
                   pull_of_numbers([1]), pull((4, 1, 1)), pull((0, 1, 0)), sums_of_numbers([1]), sums((4, 1, 1)),
                   sweep(4), sweep(-1), sweep_of_numbers(0, [1]), sweep(0, (3, 1, 0)), cost_of_numbers([1]),
                   cost((-1, 1, 1)), table(4), table(*[0] * 13), along(4, (1, 1), (1, 1)), along_of_numbers(0, [1]),
                   along(0, (1, 1), (1, 0)), eliminate([4], [2, 3]), eliminate([3], [2]), eliminate([3], [2, 3, 3]),
                   greedy(4), greedy(*[0] * 13)]
        self.check_refused(example_at_3_2(), refused, [call for call, answer in SHOWN])

    def test_after_a_fraction_that_is_too_heavy(self):
        start = [code(1, heavy_code((CONSTANT, 2 ** 7, 1))), point((0, 1))]
        order = list(range(1, 12))
        refused = [gradient(11), pull((11, 1, 1)), sums((11, 1, 1)), sweep(0, (11, 1, 1)), table(11),
                   along(11, (1, 1)), eliminate([11], order)]
        shown = [values(), tape(), gradient(10), sums((10, 1, 1)), cost((11, 1, 1)), table(10), along(11, (1, 2)),
                 eliminate([10], order), greedy(11)]
        self.check_refused(start, refused, shown)

    def test_without_a_point_and_with_a_fault(self):
        lines = [(INPUT, 0), (5, 0, 0)]
        asked = [values(), tape(), value(0), gradient(0), pull(), sums(), sweep(0), cost(), table(), along(0, (1, 1)),
                 eliminate([], [1]), greedy()]
        told = ask(code(1, lines), *asked, point((0, 1)), *asked, point((1, 1)), values())
        self.assertEqual(told, [[2]] + [[-4]] * 12 + [[1, 1, 1]] + [[-5]] * 12 + [[0], [2, 1, 1, 1, 1]])


class Ends(unittest.TestCase):
    def test_four_hundred_calls(self):
        calls = example_at_3_2()
        expected = [[4], [0]]
        for k in range(199):
            calls.append(point((k, 1), (-k, 1)))
            calls.append(gradient(3))
            expected.append([0])
            expected.append([2, 1 - k, 1, k, 1])
        self.assertEqual(len(calls), 400)
        self.assertEqual(ask(*calls), expected)

    def test_as_long_a_list_as_may_come(self):
        calls = [code(1, [(INPUT, 0), (NEGATIVE, 0)]), point((1, 1))]
        calls += [pull(*[(k % 2, 1, 1) for k in range(133)])] * 42
        self.assertLessEqual(len(flat(calls)), 17000)
        self.assertEqual(ask(*calls)[2:], [[1, 1, 1]] * 42)

    def test_both_ends_of_the_range_everywhere(self):
        for end in (TOP, BOTTOM):
            with self.subTest(end=end):
                told = ask(*example_at_3_2(), code(end, []), value(end), gradient(end), pull((end, end, end)),
                           pull((3, end, TOP)), point((end, TOP), (end, 1)), values(),
                           code(0, [(CONSTANT, end, TOP), (CONSTANT, end, 1)]), point(), values(),
                           code_of_numbers(1, [end] * 400), point_of_numbers([end] * 200))
                one = end // TOP
                self.assertEqual(told[2:6], [[-1], [-1], [-1], [-2]])
                self.assertEqual(told[6:9], [[2, 3 * one, 1, 3 * one, 1], [0],
                                             [4, one, 1, end, 1, TOP, 1, TOP + one, 1]])
                self.assertEqual(told[9:], [[2], [0], [2, one, 1, end, 1], [-2], [-2]])

    def test_both_ends_of_the_range_in_the_calls_from_7_on(self):
        for end in (TOP, BOTTOM):
            with self.subTest(end=end):
                one = end // TOP
                told = ask(*example_at_3_2(), sums((end, 1, 1)), sums((3, end, TOP)), sweep(end), sweep(3, (end, 1, 1)),
                           cost((3, 1, end)), cost((3, end, TOP)), table(end), along(end, (1, 1), (1, 1)),
                           along(3, (end, TOP), (0, 1)), eliminate([end], [2, 3]), eliminate([3], [2, end]),
                           greedy(end))
                self.assertEqual(told[2:6], [[-2], [4, 3 * one, 1, 3 * one, 1, one, 1, one, 1], [-1], [-2]])
                self.assertEqual(told[6], [2, 6] if end > 0 else [-2])
                self.assertEqual(told[7:], [[2, 6], [-2], [-1], [1, 3 * one, 1], [-2], [-2], [-2]])

    def test_lists_as_long_as_may_come(self):
        threes = [1] * 400
        told = ask(*example_at_3_2(), sums_of_numbers(threes[:399]), sums_of_numbers(threes),
                   sweep_of_numbers(3, threes[:399]), sweep_of_numbers(3, threes), cost_of_numbers(threes[:399]),
                   cost_of_numbers(threes), table(*[3] * 200), along_of_numbers(3, [1] * 200),
                   eliminate([3] * 200, [2] * 200), eliminate([3], [2] * 200), greedy(*[3] * 200))
        only_line_1 = [4, 0, 1, 133, 1, 0, 1, 0, 1]
        self.assertEqual(told[2:], [only_line_1, [-2], only_line_1, [-2], [2, 0]] + [[-2]] * 6)

    def test_eighty_lines_that_all_hang_together(self):
        lines = [(INPUT, 0), (INPUT, 1)] + [(SUM, k, k + 1) for k in range(78)]
        fibonacci = [0, 1]
        while len(fibonacci) < 80:
            fibonacci.append(fibonacci[-1] + fibonacci[-2])
        told = ask(code(2, lines), point((0, 1), (1, 1)), values(), gradient(79))
        self.assertEqual(told[2], [80] + flat([(number, 1) for number in fibonacci]))
        self.assertEqual(told[3], [2, fibonacci[78], 1, fibonacci[79], 1])

    def test_long_sums_are_not_slow(self):
        # Every product doubles the ways back to the inputs and lengthens the fractions; worked
        # out way by way, or with fractions that aren't in lowest terms, this would never end.
        lines = [(INPUT, 0), (INPUT, 1), (CONSTANT, TOP - 11, TOP - 33), (CONSTANT, TOP - 123, TOP - 203)]
        while len(lines) + 3 <= 80:
            count = len(lines)
            older = 0 if count == 4 else (1 if count == 7 else count - 4)
            newer = 1 if count == 4 else count - 1
            lines += [(PRODUCT, older, 2), (PRODUCT, newer, 3), (SUM, count, count + 1)]
        told = ask(code(2, lines), point((0, 1), (0, 1)), *[gradient(len(lines) - 1)] * 20)
        self.assertEqual(told[1:], [[0]] + [[-6]] * 20)


if __name__ == "__main__":
    unittest.main()
