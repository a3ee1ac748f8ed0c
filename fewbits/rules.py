"""The rules: a row's fact, from the facts of its operands; and the looker of facts."""

from fewbits.bits import full, stretched
from fewbits.facts import closed, greatest, known_bits, least, top_mask, weaker
from fewbits.rows import COMPARES, SHIFTS, SUMS, of_operands, widths_of
from fewbits.sums import sum_fact

NOTHING = (0, 0, 1)
NOUGHT = (1, 0, 1)
ONE = (0, 1, 1)


def num_fact(width, number):
    return (full(width) ^ number, number, 1)


def unlike_bits(one, other):
    return (one[0] & other[1]) | (one[1] & other[0])


def bitwise_fact(word, one, other):
    alike = min(one[2], other[2])
    if word == "and":
        return (one[0] | other[0], one[1] & other[1], alike)
    if word == "or":
        return (one[0] & other[0], one[1] | other[1], alike)
    noughts = (one[0] & other[0]) | (one[1] & other[1])
    return (noughts, unlike_bits(one, other), alike)


def left_fact(width, fact, k):
    noughts = (fact[0] << k) | full(k)
    return (noughts & full(width), (fact[1] << k) & full(width), max(1, fact[2] - k))


def right_fact(width, fact, k):
    noughts = (fact[0] >> k) | top_mask(min(k, width), width)
    return (noughts, fact[1] >> k, fact[2] if k == 0 else 1)


# Where the top bit is known, so are the copies of it that come in.
def slide_fact(width, fact, k):
    wider = width + k
    return (stretched(fact[0], width, wider) >> k, stretched(fact[1], width, wider) >> k, min(width, fact[2] + k))


def shift_fact(word, width, fact, k):
    if word == "left":
        return left_fact(width, fact, k)
    if word == "right":
        return right_fact(width, fact, k)
    return slide_fact(width, fact, k)


# From an operand of width v to width w.
def fit_fact(word, v, w, fact):
    noughts, ones, alike = fact
    if word == "cut":
        return (noughts & full(w), ones & full(w), max(1, alike - (v - w)))
    if word == "wide":
        return (noughts | top_mask(w - v, w), ones, alike if w == v else 1)
    return (stretched(noughts, v, w), stretched(ones, v, w), alike + (w - v))


def same_fact(width, one, other):
    if unlike_bits(one, other) != 0:
        return NOUGHT
    if known_bits(one) & known_bits(other) == full(width):
        return ONE
    return NOTHING


def less_fact(width, one, other):
    if greatest(one, width) < least(other):
        return ONE
    if least(one) >= greatest(other, width):
        return NOUGHT
    return NOTHING


def top_turned(fact, width):
    noughts, ones, alike = fact
    turning = (noughts ^ ones) & top_mask(1, width)
    return (noughts ^ turning, ones ^ turning, alike)


def compare_fact(word, width, one, other):
    if word == "same":
        return same_fact(width, one, other)
    if word == "less":
        return less_fact(width, one, other)
    return less_fact(width, top_turned(one, width), top_turned(other, width))


def pick_fact(choice, one, other):
    if choice[1] == 1:
        return one
    if choice[0] == 1:
        return other
    return (one[0] & other[0], one[1] & other[1], min(one[2], other[2]))


def open_fact(row, widths, facts):
    word = row[0]
    width = row[1]
    if word == "in":
        return NOTHING
    if word == "num":
        return num_fact(width, row[2])
    if word == "not":
        return (facts[0][1], facts[0][0], facts[0][2])
    if word in SUMS:
        return sum_fact(word, width, facts[0], facts[1])
    if word in SHIFTS:
        return shift_fact(word, width, facts[0], row[3])
    if word in COMPARES:
        return compare_fact(word, widths[0], facts[0], facts[1])
    if word == "pick":
        return pick_fact(facts[0], facts[1], facts[2])
    if word in ("and", "or", "xor"):
        return bitwise_fact(word, facts[0], facts[1])
    return fit_fact(word, widths[0], width, facts[0])


def rule(row, widths, facts):
    return closed(open_fact(row, widths, facts), row[1])


def facts_of(program):
    widths = widths_of(program)
    facts = []
    for row in program[0]:
        facts.append(rule(row, of_operands(row, widths), of_operands(row, facts)))
    return tuple(facts)


def wrong_fact(program, facts):
    widths = widths_of(program)
    for k, row in enumerate(program[0]):
        if not weaker(facts[k], rule(row, of_operands(row, widths), of_operands(row, facts))):
            return k
    return None
