"""The works: the number of a row, of the numbers of its operands."""

from fewbits.bits import full, stretched
from fewbits.rows import COMPARES, SHIFTS


# Turned top bits bring the numbers that count as below 0 ahead of the others, each in its order.
def lifted(number, width):
    return number ^ (1 << (width - 1))


def compared(word, width, one, other):
    if word == "same":
        found = one == other
    elif word == "less":
        found = one < other
    else:
        found = lifted(one, width) < lifted(other, width)
    return 1 if found else 0


def shifted(word, width, number, k):
    if word == "left":
        return (number << k) & full(width)
    if word == "right":
        return number >> k
    return stretched(number, width, width + k) >> k


def combined(word, width, one, other):
    if word == "and":
        return one & other
    if word == "or":
        return one | other
    if word == "xor":
        return one ^ other
    if word == "add":
        return (one + other) & full(width)
    if word == "sub":
        return (one - other) & full(width)
    return (one * other) & full(width)


def work(row, widths, numbers):
    word = row[0]
    width = row[1]
    if word == "num":
        return row[2]
    if word == "not":
        return numbers[0] ^ full(width)
    if word in SHIFTS:
        return shifted(word, width, numbers[0], row[3])
    if word == "cut":
        return numbers[0] & full(width)
    if word == "wide":
        return numbers[0]
    if word == "sign":
        return stretched(numbers[0], widths[0], width)
    if word in COMPARES:
        return compared(word, widths[0], numbers[0], numbers[1])
    if word == "pick":
        return numbers[1] if numbers[0] == 1 else numbers[2]
    return combined(word, width, numbers[0], numbers[1])
