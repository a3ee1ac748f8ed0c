"""The need of a row: which bits of its operands its asked bits hang on."""

from fewbits.bits import below, full, low_run, reach
from fewbits.rows import COMPARES, SHIFTS, operands


# A bit that one side settles is not asked of the other; where both settle it, the first one is asked.
def settled_need(first, second, mask):
    return (mask & ~(second & ~first), mask & ~first)


def mul_need(first, second, mask):
    h = reach(mask)
    u = min(h, low_run(second))
    g = min(h - u, low_run(first))
    return (full(h - u), full(h - g))


# Bits above the top hang on the top bit.
def folded(mask, width):
    if mask >> width == 0:
        return mask
    return (mask & full(width)) | (1 << (width - 1))


def shift_need(word, width, k, mask):
    if word == "left":
        return mask >> k
    if word == "right":
        return (mask << k) & full(width)
    return folded(mask << k, width)


def pick_need(choice, mask):
    if choice[1] == 1:
        return (1, mask, 0)
    if choice[0] == 1:
        return (1, 0, mask)
    return (1, mask, mask)


# Of a mask that has a bit.
def asking_need(row, widths, facts, mask):
    word = row[0]
    if word == "and":
        return settled_need(facts[0][0], facts[1][0], mask)
    if word == "or":
        return settled_need(facts[0][1], facts[1][1], mask)
    if word in ("add", "sub"):
        return (below(mask), below(mask))
    if word == "mul":
        return mul_need(facts[0][0], facts[1][0], mask)
    if word in SHIFTS:
        return (shift_need(word, row[1], row[3], mask),)
    if word == "wide":
        return (mask & full(widths[0]),)
    if word == "sign":
        return (folded(mask, widths[0]),)
    if word in COMPARES:
        return (full(widths[0]), full(widths[1]))
    if word == "pick":
        return pick_need(facts[0], mask)
    return (mask,) * len(operands(row))


def need(row, widths, facts, mask):
    if mask == 0:
        return (0,) * len(operands(row))
    return asking_need(row, widths, facts, mask)
