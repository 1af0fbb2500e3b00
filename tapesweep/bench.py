"""The object that the calls are made on: code over some inputs, and a point or none."""

from tapesweep.fraction import read_fractions
from tapesweep.fraction import weight
from tapesweep.linecode import read_lines
from tapesweep.linecode import uses_are_sound
from tapesweep.refusals import BAD_FORM
from tapesweep.refusals import BAD_NUMBER
from tapesweep.refusals import BAD_USE
from tapesweep.refusals import FAULTY_RUN
from tapesweep.refusals import NO_POINT
from tapesweep.refusals import TOO_HEAVY
from tapesweep.refusals import TOO_MANY_LINES
from tapesweep.run import NO_FAULT
from tapesweep.run import make_tape
from tapesweep.run import run
from tapesweep.sweep import by_inputs
from tapesweep.sweep import read_weights
from tapesweep.sweep import sweep_sums
from tapesweep.sweep import weight_on_one

MOST_INPUTS = 12
MOST_LINES = 80
MOST_TOLD_WEIGHT = 800


def tell(head, fractions):
    """An answer: the numbers of head, then the fractions, unless one is too heavy to be told."""
    answer = list(head)
    for fraction in fractions:
        if weight(fraction) > MOST_TOLD_WEIGHT:
            return [TOO_HEAVY]
        answer.extend(fraction)
    return answer


class Bench:
    """Each answer_ method answers one call with a list of numbers; a refusal is one number below 0."""

    def __init__(self):
        self.inputs = 0
        self.lines = []
        self.has_point = False
        self.fault = NO_FAULT
        self.results = []
        self.tape = []

    def is_line(self, number):
        return 0 <= number and number < len(self.lines)

    def run_refusal(self):
        """The refusal where there is no whole run to tell of, else None."""
        if not self.has_point:
            return NO_POINT
        if self.fault != NO_FAULT:
            return FAULTY_RUN
        return None

    def input_derivatives(self, weights):
        """The derivatives by the inputs of the weighted sum of lines."""
        sums = sweep_sums(self.lines, self.tape, weights)
        return by_inputs(self.lines, self.inputs, sums)

    def answer_code(self, inputs, numbers):
        if inputs < 0 or inputs > MOST_INPUTS:
            return [BAD_NUMBER]
        lines = read_lines(numbers)
        if lines is None:
            return [BAD_FORM]
        if len(lines) > MOST_LINES:
            return [TOO_MANY_LINES]
        if not uses_are_sound(lines, inputs):
            return [BAD_USE]
        self.inputs = inputs
        self.lines = lines
        self.has_point = False
        return [len(lines)]

    def answer_point(self, numbers):
        point = read_fractions(numbers, self.inputs)
        if point is None:
            return [BAD_FORM]
        outcome = run(self.lines, point)
        self.has_point = True
        self.fault = outcome[0]
        self.results = outcome[1]
        if self.fault != NO_FAULT:
            return [1, len(self.results), self.fault]
        self.tape = make_tape(self.lines, self.results)
        return [0]

    def answer_value(self, number):
        if not self.is_line(number):
            return [BAD_NUMBER]
        refusal = self.run_refusal()
        if refusal is not None:
            return [refusal]
        return tell([1], [self.results[number]])

    def answer_values(self):
        refusal = self.run_refusal()
        if refusal is not None:
            return [refusal]
        return tell([len(self.lines)], self.results)

    def answer_tape(self):
        refusal = self.run_refusal()
        if refusal is not None:
            return [refusal]
        head = [len(self.lines)]
        every = []
        for derivatives in self.tape:
            head.append(len(derivatives))
            every.extend(derivatives)
        return tell(head, every)

    def answer_gradient(self, number):
        if not self.is_line(number):
            return [BAD_NUMBER]
        refusal = self.run_refusal()
        if refusal is not None:
            return [refusal]
        weights = weight_on_one(number, len(self.lines))
        return tell([self.inputs], self.input_derivatives(weights))

    def answer_pull(self, numbers):
        weights = read_weights(numbers, len(self.lines))
        if weights is None:
            return [BAD_FORM]
        refusal = self.run_refusal()
        if refusal is not None:
            return [refusal]
        return tell([self.inputs], self.input_derivatives(weights))
