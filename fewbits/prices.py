"""What a program costs."""

from fewbits.rows import COMPARES, widths_of


def row_price(row, widths):
    word = row[0]
    width = row[1]
    if word in ("not", "and", "or", "xor", "pick"):
        return width
    if word in COMPARES:
        return widths[row[2]]
    if word in ("add", "sub"):
        return 2 * width
    if word == "mul":
        return width * width
    return 0


def price(program):
    widths = widths_of(program)
    return sum([row_price(row, widths) for row in program[0]])
