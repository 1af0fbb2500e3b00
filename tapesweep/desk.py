"""The desk: many calls on one new object, told and answered in one list of numbers each."""

from tapesweep.bench import Bench

CODE = 0
POINT = 1
VALUE = 2
VALUES = 3
TAPE = 4
GRADIENT = 5
PULL = 6
SUMS = 7
SWEEP = 8
COST = 9
TABLE = 10
ALONG = 11
ELIMINATE = 12
GREEDY = 13


class Reader:
    """Reads a list of numbers from its beginning, and leaves it as it is."""

    def __init__(self, numbers):
        self.numbers = numbers
        self.at = 0

    def has_more(self):
        return self.at < len(self.numbers)

    def take_number(self):
        number = self.numbers[self.at]
        self.at = self.at + 1
        return number

    def take_row(self):
        """A row, which has its length before it."""
        length = self.take_number()
        row = self.numbers[self.at:self.at + length]
        self.at = self.at + length
        return row


def answer_call(bench, reader):
    """The answer to the call that comes next."""
    call = reader.take_number()
    if call == CODE:
        inputs = reader.take_number()
        return bench.answer_code(inputs, reader.take_row())
    if call == POINT:
        return bench.answer_point(reader.take_row())
    if call == VALUE:
        return bench.answer_value(reader.take_number())
    if call == VALUES:
        return bench.answer_values()
    if call == TAPE:
        return bench.answer_tape()
    if call == GRADIENT:
        return bench.answer_gradient(reader.take_number())
    if call == PULL:
        return bench.answer_pull(reader.take_row())
    if call == SUMS:
        return bench.answer_sums(reader.take_row())
    if call == SWEEP:
        number = reader.take_number()
        return bench.answer_sweep(number, reader.take_row())
    if call == COST:
        return bench.answer_cost(reader.take_row())
    if call == TABLE:
        return bench.answer_table(reader.take_row())
    if call == ALONG:
        number = reader.take_number()
        return bench.answer_along(number, reader.take_row())
    if call == ELIMINATE:
        outs = reader.take_row()
        return bench.answer_eliminate(outs, reader.take_row())
    if call == GREEDY:
        return bench.answer_greedy(reader.take_row())
    raise ValueError("no such call")


def answers(calls):
    """For each call how many numbers are answered, then these."""
    bench = Bench()
    reader = Reader(calls)
    told = []
    while reader.has_more():
        answer = answer_call(bench, reader)
        told.append(len(answer))
        told.extend(answer)
    return told
