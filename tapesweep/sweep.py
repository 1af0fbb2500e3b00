"""The sweep: weights on lines, summed backwards along the tape."""

from tapesweep.fraction import ONE
from tapesweep.fraction import ZERO
from tapesweep.fraction import lowest
from tapesweep.fraction import plus
from tapesweep.fraction import times
from tapesweep.linecode import INPUT
from tapesweep.linecode import lines_used

# What it costs to pass on a line, by its kind.
PRICES = (0, 0, 2, 2, 4, 4, 1)


def read_weights(numbers, count):
    """The weight of each of so many lines, told by a row of threes, or None where it isn't one."""
    if len(numbers) % 3 != 0:
        return None
    weights = [ZERO] * count
    for at in range(0, len(numbers), 3):
        number = numbers[at]
        if number < 0 or number >= count or numbers[at + 2] < 1:
            return None
        told = lowest(numbers[at + 1], numbers[at + 2])
        weights[number] = plus(weights[number], told)
    return weights


def weight_on_one(number, count):
    """The weight 1 on one of so many lines, and 0 on the others."""
    weights = [ZERO] * count
    weights[number] = ONE
    return weights


def sweep_sums(lines, tape, weights, down_to):
    """The sums of all lines when the sweep has passed on the lines from the last down to one."""
    sums = list(weights)
    for number in range(len(lines) - 1, down_to - 1, -1):
        own = sums[number]
        if own != ZERO:
            for used, derivative in zip(lines_used(lines[number]), tape[number]):
                sums[used] = plus(sums[used], times(own, derivative))
    return sums


def sweep_cost(lines, sums):
    """What the sweep costs that has left these sums."""
    # A line uses earlier lines alone: once it's passed on its sum stays, so the sums that are
    # left tell which lines had one then.
    cost = 0
    for line, line_sum in zip(lines, sums):
        if line_sum != ZERO:
            cost = cost + PRICES[line[0]]
    return cost


def by_inputs(lines, inputs, sums):
    """For each input the sums of all lines that are that input, added."""
    derivatives = [ZERO] * inputs
    for line, line_sum in zip(lines, sums):
        if line[0] == INPUT:
            derivatives[line[1]] = plus(derivatives[line[1]], line_sum)
    return derivatives
