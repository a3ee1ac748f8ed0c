"""Runs of a program: all its rows' numbers, of inputs; and turned runs."""

from fewbits.rows import of_operands, widths_of
from fewbits.works import work


def turned(program, inputs, masks):
    widths = widths_of(program)
    numbers = []
    taken = 0
    for row, mask in zip(program[0], masks):
        if row[0] == "in":
            number = inputs[taken]
            taken = taken + 1
        else:
            number = work(row, of_operands(row, widths), of_operands(row, numbers))
        numbers.append(number ^ mask)
    return tuple(numbers)


def run(program, inputs):
    return turned(program, inputs, (0,) * len(program[0]))


def of_outs(program, numbers):
    return tuple([numbers[out] for out in program[1]])


def told(program, inputs):
    return of_outs(program, run(program, inputs))
