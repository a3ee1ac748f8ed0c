"""What is known of sums, differences and products."""

from fewbits.bits import full, low_run, shared_top
from fewbits.facts import greatest, known_bits, least


def outcome(word, one, other):
    if word == "add":
        return one + other
    if word == "sub":
        return one - other
    return one * other


# No bit of an outcome hangs on higher bits of the operands.
def low_masks(word, one, other):
    low = full(low_run(known_bits(one) & known_bits(other)))
    ones = outcome(word, least(one), least(other)) & low
    return (low ^ ones, ones)


def low_noughts(word, width, one, other):
    if word != "mul":
        return 0
    return full(min(width, low_run(one[0]) + low_run(other[0])))


def bounds(word, width, one, other):
    if word == "sub":
        return (least(one) - greatest(other, width), greatest(one, width) - least(other))
    lowest = outcome(word, least(one), least(other))
    highest = outcome(word, greatest(one, width), greatest(other, width))
    return (lowest, highest)


def top_masks(word, width, one, other):
    lowest, highest = bounds(word, width, one, other)
    if lowest < 0 or highest > full(width):
        return (0, 0)
    return shared_top(lowest, highest, width)


# A carry reaches at most one of the alike bits.
def sum_alike(word, one, other):
    if word == "mul":
        return 1
    return max(1, min(one[2], other[2]) - 1)


def sum_fact(word, width, one, other):
    low = low_masks(word, one, other)
    top = top_masks(word, width, one, other)
    noughts = low[0] | top[0] | low_noughts(word, width, one, other)
    return (noughts, low[1] | top[1], sum_alike(word, one, other))
