"""Works exchanged for cheaper ones, by what is known and what is asked."""

from fewbits.asking import asked
from fewbits.bits import below, reach
from fewbits.facts import known_bits
from fewbits.rows import SHIFTS, of_operands, with_operands, widths_of
from fewbits.rules import facts_of

EXCHANGEABLE = ("and", "or", "xor", "add", "mul")


def among(mask, other):
    return mask & ~other == 0


# Bit k, where of the mask's bits just bit k is a known one and all others are known noughts; else None.
def single_bit(fact, mask):
    ones = fact[1] & mask
    if ones == 0 or ones & (ones - 1) != 0 or not among(mask, known_bits(fact)):
        return None
    return reach(ones) - 1


# The n of the num that the row becomes, or None. Places are the numbers of the rows that its operands have become.
def known_number(row, fact, mask, places):
    word = row[0]
    if among(mask, known_bits(fact)):
        return fact[1]
    if word in ("xor", "sub", "less", "under") and places[0] == places[1]:
        return 0
    if word == "same" and places[0] == places[1]:
        return 1
    return None


# Whether an operand of which this fact is known leaves the other one as it is, so far as it is asked.
def changes_nothing(word, fact, mask):
    if word == "and":
        return among(mask, fact[1])
    if word in ("or", "xor"):
        return among(mask, fact[0])
    if word in ("add", "sub"):
        return among(below(mask), fact[0])
    return word == "mul" and single_bit(fact, below(mask)) == 0


def passed_side(choice, places):
    if places[1] == places[2] or choice[1] == 1:
        return 1
    return 2 if choice[0] == 1 else None


# Which of its operands the row becomes, counted from 0, or None.
def passed_operand(row, mask, widths, facts, places):
    word = row[0]
    if word in ("and", "or") and places[0] == places[1]:
        return 0
    if word == "pick":
        return passed_side(facts[0], places)
    if word in SHIFTS:
        return 0 if row[3] == 0 else None
    if word in ("cut", "wide", "sign"):
        return 0 if widths[0] == row[1] else None
    if len(places) == 2 and changes_nothing(word, facts[1], mask):
        return 0
    if word in EXCHANGEABLE and changes_nothing(word, facts[0], mask):
        return 1
    return None


def product_by_shift(row, low, facts, places):
    for one, other in ((0, 1), (1, 0)):
        k = single_bit(facts[other], low)
        if k is not None:
            return ("left", row[1], places[one], k)
    return None


# A cheaper row that tells the same, or None.
def cheaper_row(row, mask, facts, places):
    low = below(mask)
    if row[0] == "mul":
        return product_by_shift(row, low, facts, places)
    if row[0] == "add" and among(low, facts[0][0] | facts[1][0]):
        return ("or", row[1]) + places
    if row[0] == "sub" and among(low, facts[1][0] | facts[0][1]):
        return ("xor", row[1]) + places
    return None


# The word for it, the row that is made or None, and the number of the row that stands for it already or None.
def trade(row, fact, mask, widths, facts, places):
    if row[0] == "in":
        return ("kept", row, None)
    if mask == 0:
        return ("gone", None, None)
    if row[0] == "num":
        return ("kept", row, None)
    number = known_number(row, fact, mask, places)
    if number is not None:
        return ("known", ("num", row[1], number), None)
    operand = passed_operand(row, mask, widths, facts, places)
    if operand is not None:
        return ("passed", None, places[operand])
    cheaper = cheaper_row(row, mask, facts, places)
    if cheaper is not None:
        return ("cheaper", cheaper, None)
    return ("kept", with_operands(row, places), None)


def traded(program):
    facts = facts_of(program)
    masks = asked(program, facts)
    widths = widths_of(program)
    rows = []
    places = []
    words = []
    for row, fact, mask in zip(program[0], facts, masks):
        about = (of_operands(row, widths), of_operands(row, facts), of_operands(row, places))
        word, made, place = trade(row, fact, mask, about[0], about[1], about[2])
        if made is not None:
            place = len(rows)
            rows.append(made)
        places.append(place)
        words.append(word)
    outs = tuple([places[out] for out in program[1]])
    return ((tuple(rows), outs), tuple(words))
