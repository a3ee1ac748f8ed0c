"""What a row is made of, and how wide the rows of a program are."""

# How many numbers of rows stand behind the width; what stands behind these is an n or a shift.
OPERAND_COUNTS = {
    "in": 0,
    "num": 0,
    "not": 1,
    "and": 2,
    "or": 2,
    "xor": 2,
    "add": 2,
    "sub": 2,
    "mul": 2,
    "left": 1,
    "right": 1,
    "slide": 1,
    "cut": 1,
    "wide": 1,
    "sign": 1,
    "same": 2,
    "less": 2,
    "under": 2,
    "pick": 3,
}


def operands(row):
    return row[2:2 + OPERAND_COUNTS[row[0]]]


def width_of(program, k):
    rows = program[0]
    return rows[k][1]
