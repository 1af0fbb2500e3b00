"""Ways: the graph of a calculation, from which lines are taken out one by one, in any order."""

from tapesweep.fraction import ONE
from tapesweep.fraction import ZERO
from tapesweep.fraction import plus
from tapesweep.fraction import times
from tapesweep.linecode import INPUT
from tapesweep.linecode import lines_used

MOST_OUTS = 12


def read_outs(numbers, count):
    """The outs among so many lines, or None where a row of numbers doesn't tell outs."""
    if len(numbers) > MOST_OUTS:
        return None
    for number in numbers:
        if number < 0 or number >= count:
            return None
    return list(numbers)


def lines_to_take_out(lines):
    """The numbers of all lines that aren't inputs, rising."""
    return [number for number, line in enumerate(lines) if line[0] != INPUT]


def read_order(numbers, lines):
    """The order that a row of numbers tells, or None where it isn't one."""
    if sorted(numbers) != lines_to_take_out(lines):
        return None
    return list(numbers)


class Ways:
    """The ways from line to line and from each out to its end; the ends are numbered on from the lines."""

    def __init__(self, lines, tape, outs):
        self.first_end = len(lines)
        # Worths stand with the line that a way comes from alone; coming only tells where to look.
        self.going = [{} for line in lines]
        self.coming = [{} for target in range(len(lines) + len(outs))]
        self.products = 0
        self.sums = 0
        for number, line in enumerate(lines):
            for used, derivative in zip(lines_used(line), tape[number]):
                self.add_way(used, number, derivative)
        for place, out in enumerate(outs):
            self.add_way(out, self.first_end + place, ONE)

    def add_way(self, source, target, worth):
        """Makes a way, or adds to the worth of the one that's there; answers whether one was there."""
        onward = self.going[source]
        # A way that's worth 0 is a way: what counts is that it's there.
        met = target in onward
        if met:
            onward[target] = plus(onward[target], worth)
        else:
            onward[target] = worth
            self.coming[target][source] = True
        return met

    def take_out(self, number):
        onward = list(self.going[number].items())
        for source in list(self.coming[number]):
            worth_to = self.going[source].pop(number)
            for target, worth_from in onward:
                self.products = self.products + 1
                if self.add_way(source, target, times(worth_to, worth_from)):
                    self.sums = self.sums + 1
        for target in list(self.going[number]):
            self.coming[target].pop(number)
        self.going[number] = {}
        self.coming[number] = {}

    def products_for(self, number):
        """How many products it takes to take out a line now."""
        return len(self.coming[number]) * len(self.going[number])

    def worths_to_end(self, place):
        """For each line the worth of its way to the end of the out at a place, 0 where there's none."""
        return [onward.get(self.first_end + place, ZERO) for onward in self.going]


def take_out_greedily(ways, waiting):
    """Takes out all waiting lines, told rising, in the greedy order; answers that order."""
    rest = list(waiting)
    order = []
    while len(rest) > 0:
        # Of several least ones min takes the first, which has the least number, as rest stays rising.
        number = min(rest, key=ways.products_for)
        rest.remove(number)
        order.append(number)
        ways.take_out(number)
    return order
