"""Whether a bit matters: a try at which it does, or the way by which it is asked."""

from fewbits.asking import way
from fewbits.bits import full
from fewbits.errors import TooMany
from fewbits.rules import facts_of
from fewbits.runs import of_outs, told, turned


def single_masks(program, row, bit):
    masks = [0] * len(program[0])
    masks[row] = 1 << bit
    return tuple(masks)


def matters(program, row, bit, try_):
    numbers = turned(program, try_, single_masks(program, row, bit))
    return of_outs(program, numbers) != told(program, try_)


def matter(program, row, bit, tries):
    for t, try_ in enumerate(tries):
        if matters(program, row, bit, try_):
            return ("try", t)
    steps = way(program, facts_of(program), row, bit)
    return ("way" if len(steps) > 0 else "unasked", steps)


def counted_try(count, widths):
    inputs = []
    for width in widths:
        inputs.append(count & full(width))
        count = count >> width
    return tuple(inputs)


def all_tries(program):
    widths = [row[1] for row in program[0] if row[0] == "in"]
    bits = sum(widths)
    if bits > 8:
        raise TooMany()
    return tuple([counted_try(count, widths) for count in range(1 << bits)])
