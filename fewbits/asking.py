"""Asked bits of a program, the looker of asked bits, and the way of an asked bit."""

from fewbits.bits import full
from fewbits.needs import need
from fewbits.rows import of_operands, operands, width_of


# Pairs of an operand and the bits that are needed of it.
def row_needs(program, facts, k, mask):
    row = program[0][k]
    widths = tuple([width_of(program, operand) for operand in operands(row)])
    needs = need(row, widths, of_operands(row, facts), mask)
    return list(zip(operands(row), needs))


# Operands lie ahead, so from behind each row's mask is whole when it is come upon.
def asked(program, facts):
    rows, outs = program
    masks = [0] * len(rows)
    for out in outs:
        masks[out] = full(width_of(program, out))
    for k in range(len(rows) - 1, -1, -1):
        for operand, mask in row_needs(program, facts, k, masks[k]):
            masks[operand] = masks[operand] | mask
    return tuple(masks)


def wrong_mask(program, facts, masks):
    rows, outs = program
    for k in range(len(rows)):
        if any([mask & ~masks[operand] != 0 for operand, mask in row_needs(program, facts, k, masks[k])]):
            return k
    if any([full(width_of(program, out)) & ~masks[out] != 0 for out in outs]):
        return len(rows)
    return None


def needs_bit(program, facts, step, row, bit):
    needs = row_needs(program, facts, step[0], 1 << step[1])
    return any([operand == row and (mask >> bit) & 1 == 1 for operand, mask in needs])


# Some asked bit of a row behind, whose need has the bit; there is one, of each asked bit that is no out's.
def next_step(program, facts, masks, row, bit):
    for k in range(row + 1, len(masks)):
        if row in operands(program[0][k]):
            for place in range(width_of(program, k)):
                if (masks[k] >> place) & 1 == 1 and needs_bit(program, facts, (k, place), row, bit):
                    return (k, place)
    return None


def way(program, facts, row, bit):
    masks = asked(program, facts)
    if (masks[row] >> bit) & 1 == 0:
        return ()
    step = (row, bit)
    steps = [step]
    while step[0] not in program[1]:
        step = next_step(program, facts, masks, step[0], step[1])
        steps.append(step)
    return tuple(steps)
