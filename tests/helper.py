"""What several tests need: programs to try things on, and a reckoning of runs by written bits.

The reckoning here goes by texts of bits and by remainders, not by the package's masks.
"""

import itertools
import random

BITWISE = ("and", "or", "xor")
SUMS = ("add", "sub", "mul")
SHIFTS = ("left", "right", "slide")
COMPARES = ("same", "less", "under")
TWO_OF_ONE_WIDTH = BITWISE + SUMS
WORDS = ("in", "num", "not") + TWO_OF_ONE_WIDTH + SHIFTS + ("cut", "wide", "sign") + COMPARES + ("pick",)

# A good program that has every word.
EVERY_WORD = (
    (
        ("in", 8), ("num", 8, 200), ("not", 8, 0), ("and", 8, 0, 1), ("or", 8, 2, 1), ("xor", 8, 2, 3),
        ("add", 8, 3, 4), ("sub", 8, 5, 6), ("mul", 8, 7, 4), ("left", 8, 8, 2), ("right", 8, 7, 3),
        ("slide", 8, 7, 1), ("cut", 5, 8), ("wide", 16, 11), ("sign", 16, 12), ("same", 1, 13, 14),
        ("less", 1, 10, 11), ("under", 1, 9, 2), ("pick", 16, 16, 13, 14), ("in", 3), ("sign", 64, 19),
    ),
    (18, 20, 15, 17, 10),
)


def bits_of(number, width):
    """The bits as a text, the highest one first."""
    return bin(number)[2:].rjust(width, "0")


def mask_of(text, sign):
    """The mask of the places where the text, the highest bit first, has the sign."""
    return sum(2 ** k for k, each in enumerate(reversed(text)) if each == sign)


def counted(number, width):
    """The number, as less 2 ** width where its top bit is 1."""
    return number - 2 ** width if number >= 2 ** (width - 1) else number


def shifted_bits(word, bits, k):
    width = len(bits)
    if word == "left":
        return (bits + "0" * k)[-width:]
    return ((bits[0] if word == "slide" else "0") * k + bits)[:width]


def paired_bits(word, one, other):
    tables = {"and": ("11",), "or": ("11", "10", "01"), "xor": ("10", "01")}
    return "".join("1" if a + b in tables[word] else "0" for a, b in zip(one, other))


def reckoned(row, widths, numbers):
    """A row's number by point 9."""
    word, width = row[0], row[1]
    if word == "num":
        return row[2]
    first = bits_of(numbers[0], widths[0])
    if word == "not":
        return int("".join("10"[int(bit)] for bit in first), 2)
    if word in BITWISE:
        return int(paired_bits(word, first, bits_of(numbers[1], width)), 2)
    if word in SUMS:
        sums = {"add": numbers[0] + numbers[1], "sub": numbers[0] - numbers[1], "mul": numbers[0] * numbers[1]}
        return sums[word] % 2 ** width
    if word in SHIFTS:
        return int(shifted_bits(word, first, row[3]), 2)
    if word == "cut":
        return int(first[-width:], 2)
    if word in ("wide", "sign"):
        return int(first.rjust(width, first[0] if word == "sign" else "0"), 2)
    if word == "same":
        return int(first == bits_of(numbers[1], widths[1]))
    if word == "less":
        return int(numbers[0] < numbers[1])
    if word == "under":
        return int(counted(numbers[0], widths[0]) < counted(numbers[1], widths[0]))
    return numbers[1] if numbers[0] else numbers[2]


def row_operands(row):
    counts = {"in": 0, "num": 0, "pick": 3}
    single = ("not", "cut", "wide", "sign") + SHIFTS
    return row[2:2 + counts.get(row[0], 1 if row[0] in single else 2)]


def reckoned_run(program, inputs, masks=None):
    rows = program[0]
    coming = iter(inputs)
    numbers = []
    for k, row in enumerate(rows):
        if row[0] == "in":
            number = next(coming)
        else:
            ahead = row_operands(row)
            number = reckoned(row, [rows[a][1] for a in ahead], [numbers[a] for a in ahead])
        numbers.append(number ^ (masks[k] if masks else 0))
    return tuple(numbers)


def reckoned_outs(program, inputs):
    numbers = reckoned_run(program, inputs)
    return tuple(numbers[out] for out in program[1])


def all_kinds(value, kinds=(int, str)):
    """Whether the value is of just these kinds, no truths among whole numbers, and of tuples of such."""
    if type(value) is tuple:
        return all(all_kinds(part, kinds) for part in value)
    return type(value) in kinds


def some_number(rng, width):
    """Numbers of which much can be known, among any."""
    top = 2 ** width - 1
    kinds = (
        0, top, 1, 2 ** rng.randrange(width), 2 ** rng.randint(0, width) - 1,
        top - (2 ** rng.randint(0, width) - 1), rng.randint(0, top), rng.randint(0, top),
    )
    return rng.choice(kinds)


def unused(rows):
    used = [a for row in rows for a in row_operands(row)]
    return [k for k in range(len(rows)) if k not in used]


def some_operand(rng, rows, width=None):
    """A row of the width, mostly one that no other row has as yet; None where there is none."""
    found = [k for k, row in enumerate(rows) if width in (None, row[1])]
    fresh = [k for k in unused(rows) if k in found]
    if fresh and rng.random() < 0.7:
        return rng.choice(fresh)
    return rng.choice(found) if found else None


def some_shift(rng, width):
    return min(63, rng.choice((0, 1, width - 1, width, 63, rng.randint(0, 63), rng.randint(0, width))))


def some_row(rng, rows, most):
    """A row of any word that fits behind these rows; None where none of the drawn word does."""
    word = rng.choice(WORDS[1:])
    if word == "num" or not rows:
        width = rng.choice([row[1] for row in rows] + [rng.randint(1, most)])
        return ("num", width, some_number(rng, width))
    first = some_operand(rng, rows)
    width = rows[first][1]
    second = some_operand(rng, rows, width)
    if word == "not":
        return (word, width, first)
    if word in TWO_OF_ONE_WIDTH:
        return (word, width, first, second)
    if word in COMPARES:
        return (word, 1, first, second)
    if word in SHIFTS:
        return (word, width, first, some_shift(rng, width))
    if word == "cut":
        return (word, rng.randint(1, width), first)
    if word in ("wide", "sign"):
        return (word, rng.randint(width, max(most, width)), first)
    choice = some_operand(rng, rows, 1)
    return None if choice is None else (word, width, choice, first, second)


def some_program(seed, length=20, most=12, ins=3, in_most=None):
    """A good program; the same one for the same seed."""
    rng = random.Random(seed)
    rows = [("in", rng.randint(1, in_most or most)) for _ in range(ins)]
    while len(rows) < length:
        row = some_row(rng, rows, most)
        if row is not None:
            rows.append(row)
    left = unused(rows)
    outs = rng.sample(left, min(len(left), rng.randint(1, 7))) + [rng.randrange(len(rows))]
    return (tuple(rows), tuple(outs))


def some_inputs(program, seed, count=20):
    """Tuples of inputs: noughts, all ones, and any."""
    rng = random.Random(seed)
    widths = [row[1] for row in program[0] if row[0] == "in"]
    made = [tuple(0 for width in widths), tuple(2 ** width - 1 for width in widths)]
    made.extend(tuple(some_number(rng, width) for width in widths) for _ in range(count))
    return made


# Facts as patterns: a text of 0, 1 and ? for what isn't known, the highest bit first, and how many are alike.


def fact_of(text, alike):
    return (mask_of(text, "0"), mask_of(text, "1"), alike)


def pattern_of(fact, width):
    bits = zip(bits_of(fact[0], width), bits_of(fact[1], width))
    return ("".join("0" if nought == "1" else "1" if one == "1" else "?" for nought, one in bits), fact[2])


def can_hold(text, alike):
    return not ("0" in text[:alike] and "1" in text[:alike])


def facts_of_width(width):
    """All patterns of the width that hold of some number."""
    texts = ["".join(signs) for signs in itertools.product("01?", repeat=width)]
    return [(text, alike) for text in texts for alike in range(1, width + 1) if can_hold(text, alike)]


def some_fact(rng, width):
    """A pattern that holds of some number, closed or not."""
    share = rng.choice((0, 0.2, 0.5, 0.9, 1))
    alike = rng.choice((1, 1, rng.randint(1, width)))
    number = bits_of(some_number(rng, width), width)
    bits = number[0] * alike + number[alike:]
    return ("".join(bit if rng.random() < share else "?" for bit in bits), alike)


def leading(text, sign):
    return len(text) - len(text.lstrip(sign))


def closed_pattern(text, alike):
    for sign in "01":
        if sign in text[:alike]:
            text = sign * alike + text[alike:]
    return (text, max(alike, leading(text, "0"), leading(text, "1")))
