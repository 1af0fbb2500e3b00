"""The object that the calls are made on: code over some inputs, and a point or none."""

from tapesweep.fraction import ZERO
from tapesweep.fraction import plus
from tapesweep.fraction import read_fractions
from tapesweep.fraction import times
from tapesweep.fraction import weight
from tapesweep.linecode import is_operation
from tapesweep.linecode import read_lines
from tapesweep.linecode import uses_are_sound
from tapesweep.refusals import BAD_FORM
from tapesweep.refusals import BAD_NUMBER
from tapesweep.refusals import BAD_USE
from tapesweep.refusals import FAULTY_RUN
from tapesweep.refusals import NO_POINT
from tapesweep.refusals import TOO_HEAVY
from tapesweep.refusals import TOO_MANY_LINES
from tapesweep.run import NO_FAULT
from tapesweep.run import make_tape
from tapesweep.run import run
from tapesweep.sweep import by_inputs
from tapesweep.sweep import read_weights
from tapesweep.sweep import sweep_cost
from tapesweep.sweep import sweep_sums
from tapesweep.sweep import weight_on_one
from tapesweep.ways import Ways
from tapesweep.ways import lines_to_take_out
from tapesweep.ways import read_order
from tapesweep.ways import read_outs
from tapesweep.ways import take_out_greedily

MOST_INPUTS = 12
MOST_LINES = 80
MOST_TOLD_WEIGHT = 800


def tell(head, fractions):
    """An answer: the numbers of head, then the fractions, unless one is too heavy to be told."""
    answer = list(head)
    for fraction in fractions:
        if weight(fraction) > MOST_TOLD_WEIGHT:
            return [TOO_HEAVY]
        answer.extend(fraction)
    return answer


class Bench:
    """Each answer_ method answers one call with a list of numbers; a refusal is one number below 0."""

    def __init__(self):
        self.inputs = 0
        self.lines = []
        self.has_point = False
        self.fault = NO_FAULT
        self.results = []
        self.tape = []

    def is_line(self, number):
        return 0 <= number and number < len(self.lines)

    def run_refusal(self):
        """The refusal where there is no whole run to tell of, else None."""
        if not self.has_point:
            return NO_POINT
        if self.fault != NO_FAULT:
            return FAULTY_RUN
        return None

    def read_refusal(self, read):
        """The refusal where a list could not be read (read is None) or there is no whole run, else None."""
        if read is None:
            return BAD_FORM
        return self.run_refusal()

    def sums_down_to(self, number, weights):
        return sweep_sums(self.lines, self.tape, weights, number)

    def input_derivatives(self, weights):
        """The derivatives by the inputs of the weighted sum of lines."""
        return by_inputs(self.lines, self.inputs, self.sums_down_to(0, weights))

    def line_derivatives(self, number):
        """The derivatives of a line by the inputs."""
        return self.input_derivatives(weight_on_one(number, len(self.lines)))

    def answer_code(self, inputs, numbers):
        if inputs < 0 or inputs > MOST_INPUTS:
            return [BAD_NUMBER]
        lines = read_lines(numbers)
        if lines is None:
            return [BAD_FORM]
        if len(lines) > MOST_LINES:
            return [TOO_MANY_LINES]
        if not uses_are_sound(lines, inputs):
            return [BAD_USE]
        self.inputs = inputs
        self.lines = lines
        self.has_point = False
        return [len(lines)]

    def answer_point(self, numbers):
        point = read_fractions(numbers, self.inputs)
        if point is None:
            return [BAD_FORM]
        outcome = run(self.lines, point)
        self.has_point = True
        self.fault = outcome[0]
        self.results = outcome[1]
        if self.fault != NO_FAULT:
            return [1, len(self.results), self.fault]
        self.tape = make_tape(self.lines, self.results)
        return [0]

    def answer_value(self, number):
        if not self.is_line(number):
            return [BAD_NUMBER]
        refusal = self.run_refusal()
        if refusal is not None:
            return [refusal]
        return tell([1], [self.results[number]])

    def answer_values(self):
        refusal = self.run_refusal()
        if refusal is not None:
            return [refusal]
        return tell([len(self.lines)], self.results)

    def answer_tape(self):
        refusal = self.run_refusal()
        if refusal is not None:
            return [refusal]
        head = [len(self.lines)]
        every = []
        for derivatives in self.tape:
            head.append(len(derivatives))
            every.extend(derivatives)
        return tell(head, every)

    def answer_gradient(self, number):
        if not self.is_line(number):
            return [BAD_NUMBER]
        refusal = self.run_refusal()
        if refusal is not None:
            return [refusal]
        return tell([self.inputs], self.line_derivatives(number))

    def answer_pull(self, numbers):
        weights = read_weights(numbers, len(self.lines))
        refusal = self.read_refusal(weights)
        if refusal is not None:
            return [refusal]
        return tell([self.inputs], self.input_derivatives(weights))

    def answer_sums(self, numbers):
        weights = read_weights(numbers, len(self.lines))
        refusal = self.read_refusal(weights)
        if refusal is not None:
            return [refusal]
        return tell([len(self.lines)], self.sums_down_to(0, weights))

    def answer_sweep(self, number, numbers):
        if not self.is_line(number):
            return [BAD_NUMBER]
        weights = read_weights(numbers, len(self.lines))
        refusal = self.read_refusal(weights)
        if refusal is not None:
            return [refusal]
        return tell([len(self.lines)], self.sums_down_to(number, weights))

    def answer_cost(self, numbers):
        weights = read_weights(numbers, len(self.lines))
        refusal = self.read_refusal(weights)
        if refusal is not None:
            return [refusal]
        operations = [line for line in self.lines if is_operation(line)]
        return [len(operations), sweep_cost(self.lines, self.sums_down_to(0, weights))]

    def answer_table(self, numbers):
        outs = read_outs(numbers, len(self.lines))
        refusal = self.read_refusal(outs)
        if refusal is not None:
            return [refusal]
        rows = []
        for out in outs:
            rows.extend(self.line_derivatives(out))
        return tell([len(rows)], rows)

    def answer_along(self, number, numbers):
        if not self.is_line(number):
            return [BAD_NUMBER]
        direction = read_fractions(numbers, self.inputs)
        refusal = self.read_refusal(direction)
        if refusal is not None:
            return [refusal]
        slope = ZERO
        for derivative, step in zip(self.line_derivatives(number), direction):
            slope = plus(slope, times(derivative, step))
        return tell([1], [slope])

    def answer_eliminate(self, out_numbers, order_numbers):
        outs = read_outs(out_numbers, len(self.lines))
        order = read_order(order_numbers, self.lines)
        if outs is None or order is None:
            return [BAD_FORM]
        refusal = self.run_refusal()
        if refusal is not None:
            return [refusal]
        ways = Ways(self.lines, self.tape, outs)
        for number in order:
            ways.take_out(number)
        left = []
        for place in range(len(outs)):
            left.extend(by_inputs(self.lines, self.inputs, ways.worths_to_end(place)))
        return tell([ways.products, ways.sums], left)

    def answer_greedy(self, numbers):
        outs = read_outs(numbers, len(self.lines))
        refusal = self.read_refusal(outs)
        if refusal is not None:
            return [refusal]
        ways = Ways(self.lines, self.tape, outs)
        order = take_out_greedily(ways, lines_to_take_out(self.lines))
        return [ways.products, ways.sums] + order
