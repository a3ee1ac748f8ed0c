"""What a row is made of, and how wide the rows of a program are."""

# How many numbers of rows stand behind the width; what stands behind these is an n or a shift.
OPERAND_COUNTS = {
    "in": 0,
    "num": 0,
    "not": 1,
    "and": 2,
    "or": 2,
    "xor": 2,
    "add": 2,
    "sub": 2,
    "mul": 2,
    "left": 1,
    "right": 1,
    "slide": 1,
    "cut": 1,
    "wide": 1,
    "sign": 1,
    "same": 2,
    "less": 2,
    "under": 2,
    "pick": 3,
}

SHIFTS = ("left", "right", "slide")
SUMS = ("add", "sub", "mul")
COMPARES = ("same", "less", "under")
WIDENINGS = ("wide", "sign")


def is_word(word):
    return word in OPERAND_COUNTS


# The width, the operands, and the n or the shift where the word has one.
def number_count(word):
    further = 1 if word == "num" or word in SHIFTS else 0
    return 1 + OPERAND_COUNTS[word] + further


def operands(row):
    return row[2:2 + OPERAND_COUNTS[row[0]]]


def with_operands(row, numbers):
    return row[:2] + numbers + row[2 + len(numbers):]


def of_operands(row, values):
    return tuple([values[k] for k in operands(row)])


def width_of(program, k):
    rows = program[0]
    return rows[k][1]


def widths_of(program):
    return tuple([row[1] for row in program[0]])
