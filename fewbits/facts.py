"""Facts of numbers: bits known as noughts, bits known as ones, and how many highest bits are alike."""

from fewbits.bits import full, top_run


def top_mask(count, width):
    return full(width) ^ full(width - count)


# Of what bits the fact knows what they are.
def known_bits(fact):
    return fact[0] | fact[1]


def holds(fact, number, width):
    noughts, ones, alike = fact
    top = number >> (width - alike)
    return number & noughts == 0 and number & ones == ones and top in (0, full(alike))


def weaker(one, other):
    return one[0] & ~other[0] == 0 and one[1] & ~other[1] == 0 and one[2] <= other[2]


def closed(fact, width):
    noughts, ones, alike = fact
    top = top_mask(alike, width)
    if noughts & top != 0:
        noughts = noughts | top
    if ones & top != 0:
        ones = ones | top
    return (noughts, ones, max(alike, top_run(noughts, width), top_run(ones, width)))


def least(fact):
    return fact[1]


def greatest(fact, width):
    return full(width) ^ fact[0]
