"""What several tests need: programs to try things on, and a reckoning of runs by written bits.

The reckoning here goes by texts of bits and by remainders, not by the package's masks.
"""

import itertools
import random

from fewbits.rules import rule

BITWISE = ("and", "or", "xor")
SUMS = ("add", "sub", "mul")
SHIFTS = ("left", "right", "slide")
COMPARES = ("same", "less", "under")
TWO_OF_ONE_WIDTH = BITWISE + SUMS
WORDS = ("in", "num", "not") + TWO_OF_ONE_WIDTH + SHIFTS + ("cut", "wide", "sign") + COMPARES + ("pick",)

# A good program that has every word.
EVERY_WORD = (
    (
        ("in", 8), ("num", 8, 200), ("not", 8, 0), ("and", 8, 0, 1), ("or", 8, 2, 1), ("xor", 8, 2, 3),
        ("add", 8, 3, 4), ("sub", 8, 5, 6), ("mul", 8, 7, 4), ("left", 8, 8, 2), ("right", 8, 7, 3),
        ("slide", 8, 7, 1), ("cut", 5, 8), ("wide", 16, 11), ("sign", 16, 12), ("same", 1, 13, 14),
        ("less", 1, 10, 11), ("under", 1, 9, 2), ("pick", 16, 16, 13, 14), ("in", 3), ("sign", 64, 19),
    ),
    (18, 20, 15, 17, 10),
)


def bits_of(number, width):
    """The bits as a text, the highest one first."""
    return bin(number)[2:].rjust(width, "0")


def mask_of(text, sign):
    """The mask of the places where the text, the highest bit first, has the sign."""
    return sum(2 ** k for k, each in enumerate(reversed(text)) if each == sign)


def counted(number, width):
    """The number, as less 2 ** width where its top bit is 1."""
    return number - 2 ** width if number >= 2 ** (width - 1) else number


def shifted_bits(word, bits, k):
    width = len(bits)
    if word == "left":
        return (bits + "0" * k)[-width:]
    return ((bits[0] if word == "slide" else "0") * k + bits)[:width]


def paired_bits(word, one, other):
    tables = {"and": ("11",), "or": ("11", "10", "01"), "xor": ("10", "01")}
    return "".join("1" if a + b in tables[word] else "0" for a, b in zip(one, other))


def reckoned(row, widths, numbers):
    """A row's number by point 9."""
    word, width = row[0], row[1]
    if word == "num":
        return row[2]
    first = bits_of(numbers[0], widths[0])
    if word == "not":
        return int("".join("10"[int(bit)] for bit in first), 2)
    if word in BITWISE:
        return int(paired_bits(word, first, bits_of(numbers[1], width)), 2)
    if word in SUMS:
        sums = {"add": numbers[0] + numbers[1], "sub": numbers[0] - numbers[1], "mul": numbers[0] * numbers[1]}
        return sums[word] % 2 ** width
    if word in SHIFTS:
        return int(shifted_bits(word, first, row[3]), 2)
    if word == "cut":
        return int(first[-width:], 2)
    if word in ("wide", "sign"):
        return int(first.rjust(width, first[0] if word == "sign" else "0"), 2)
    if word == "same":
        return int(first == bits_of(numbers[1], widths[1]))
    if word == "less":
        return int(numbers[0] < numbers[1])
    if word == "under":
        return int(counted(numbers[0], widths[0]) < counted(numbers[1], widths[0]))
    return numbers[1] if numbers[0] else numbers[2]


def row_operands(row):
    counts = {"in": 0, "num": 0, "pick": 3}
    single = ("not", "cut", "wide", "sign") + SHIFTS
    return row[2:2 + counts.get(row[0], 1 if row[0] in single else 2)]


def reckoned_run(program, inputs, masks=None):
    rows = program[0]
    coming = iter(inputs)
    numbers = []
    for k, row in enumerate(rows):
        if row[0] == "in":
            number = next(coming)
        else:
            ahead = row_operands(row)
            number = reckoned(row, [rows[a][1] for a in ahead], [numbers[a] for a in ahead])
        numbers.append(number ^ (masks[k] if masks else 0))
    return tuple(numbers)


def reckoned_outs(program, inputs):
    numbers = reckoned_run(program, inputs)
    return tuple(numbers[out] for out in program[1])


def all_kinds(value, kinds=(int, str)):
    """Whether the value is of just these kinds, no truths among whole numbers, and of tuples of such."""
    if type(value) is tuple:
        return all(all_kinds(part, kinds) for part in value)
    return type(value) in kinds


def some_number(rng, width):
    """Numbers of which much can be known, among any."""
    top = 2 ** width - 1
    kinds = (
        0, top, 1, 2 ** rng.randrange(width), 2 ** rng.randint(0, width) - 1,
        top - (2 ** rng.randint(0, width) - 1), rng.randint(0, top), rng.randint(0, top),
    )
    return rng.choice(kinds)


def unused(rows):
    used = [a for row in rows for a in row_operands(row)]
    return [k for k in range(len(rows)) if k not in used]


def some_operand(rng, rows, width=None):
    """A row of the width, mostly one that no other row has as yet; None where there is none."""
    found = [k for k, row in enumerate(rows) if width in (None, row[1])]
    fresh = [k for k in unused(rows) if k in found]
    if fresh and rng.random() < 0.7:
        return rng.choice(fresh)
    return rng.choice(found) if found else None


def some_shift(rng, width):
    return min(63, rng.choice((0, 1, width - 1, width, 63, rng.randint(0, 63), rng.randint(0, width))))


def some_row(rng, rows, word, most):
    """A row of the word that fits behind these rows; None where none does."""
    if word == "num" or not rows:
        width = rng.choice([row[1] for row in rows] + [rng.randint(1, most)])
        return ("num", width, some_number(rng, width))
    first = some_operand(rng, rows)
    width = rows[first][1]
    second = some_operand(rng, rows, width)
    if word == "not":
        return (word, width, first)
    if word in TWO_OF_ONE_WIDTH:
        return (word, width, first, second)
    if word in COMPARES:
        return (word, 1, first, second)
    if word in SHIFTS:
        return (word, width, first, some_shift(rng, width))
    if word == "cut":
        return (word, rng.randint(1, width), first)
    if word in ("wide", "sign"):
        return (word, rng.randint(width, max(most, width)), first)
    choice = some_operand(rng, rows, 1)
    return None if choice is None else (word, width, choice, first, second)


def some_program(seed, length=20, most=12, ins=3, least=1, words=WORDS[1:]):
    """A good program; the same one for the same seed."""
    rng = random.Random(seed)
    rows = [("in", rng.randint(least, most)) for _ in range(ins)]
    while len(rows) < length:
        row = some_row(rng, rows, rng.choice(words), most)
        if row is not None:
            rows.append(row)
    left = unused(rows)
    outs = rng.sample(left, min(len(left), rng.randint(1, 7))) + [rng.randrange(len(rows))]
    return (tuple(rows), tuple(outs))


def with_known_bits(rng, rows, width):
    """Two numbers made so that sums and products of them are often exchanged: behind the rows, as numbers of rows."""
    mask = some_number(rng, width)
    turned = mask ^ (2 ** width - 1)
    x, y = some_operand(rng, rows, width), some_operand(rng, rows, width)
    count = len(rows)
    kinds = (
        (("num", width, 2 ** rng.randrange(width)),),
        (("num", width, mask), ("and", width, x, count), ("num", width, turned), ("and", width, y, count + 2)),
        (("num", width, mask), ("or", width, x, count), ("and", width, y, count)),
        (("num", width, 2 ** rng.randint(0, width) - 1), ("and", width, x, count), ("num", width, turned)),
    )
    made = rng.choice(kinds)
    rows.extend(made)
    return (x if len(made) == 1 else rng.choice((x, count + 1)), len(rows) - 1)


def trade_program(seed, length=24, width=8):
    """One in which much is exchanged: numbers of one width, of which some bits are known."""
    rng = random.Random(seed)
    rows = [("in", width) for _ in range(4)]
    while len(rows) < length:
        pair = list(with_known_bits(rng, rows, width))
        rng.shuffle(pair)
        rows.append((rng.choice(TWO_OF_ONE_WIDTH), width) + tuple(pair))
        further = some_row(rng, rows, rng.choice(("left", "right", "and", "xor", "pick", "cut", "less")), width)
        if further is not None:
            rows.append(further)
    left = unused(rows)
    return (tuple(rows), tuple(rng.sample(left, min(len(left), rng.randint(2, 8)))))


def some_inputs(program, seed, count=20):
    """Tuples of inputs: noughts, all ones, and any."""
    rng = random.Random(seed)
    widths = [row[1] for row in program[0] if row[0] == "in"]
    made = [tuple(0 for width in widths), tuple(2 ** width - 1 for width in widths)]
    made.extend(tuple(some_number(rng, width) for width in widths) for _ in range(count))
    return made


# Facts as patterns: a text of 0, 1 and ? for what isn't known, the highest bit first, and how many are alike.


def fact_of(text, alike):
    return (mask_of(text, "0"), mask_of(text, "1"), alike)


def pattern_of(fact, width):
    bits = zip(bits_of(fact[0], width), bits_of(fact[1], width))
    return ("".join("0" if nought == "1" else "1" if one == "1" else "?" for nought, one in bits), fact[2])


def can_hold(text, alike):
    return not ("0" in text[:alike] and "1" in text[:alike])


def facts_of_width(width):
    """All patterns of the width that hold of some number."""
    texts = ["".join(signs) for signs in itertools.product("01?", repeat=width)]
    return [(text, alike) for text in texts for alike in range(1, width + 1) if can_hold(text, alike)]


def some_fact(rng, width):
    """A pattern that holds of some number, closed or not."""
    share = rng.choice((0, 0.2, 0.5, 0.9, 1))
    alike = rng.choice((1, 1, rng.randint(1, width)))
    number = bits_of(some_number(rng, width), width)
    bits = number[0] * alike + number[alike:]
    return ("".join(bit if rng.random() < share else "?" for bit in bits), alike)


def leading(text, sign):
    return len(text) - len(text.lstrip(sign))


def closed_pattern(text, alike):
    for sign in "01":
        if sign in text[:alike]:
            text = sign * alike + text[alike:]
    return (text, max(alike, leading(text, "0"), leading(text, "1")))


def weakened(rng, fact, width):
    if rng.random() < 0.5:
        return fact
    return (fact[0] & rng.randrange(2 ** width), fact[1] & rng.randrange(2 ** width), rng.randint(1, fact[2]))


def weaker_facts(program, seed):
    """Facts that the looker lets by, most of them saying less than the program's own."""
    rng = random.Random(seed)
    rows = program[0]
    facts = []
    for row in rows:
        ahead = row_operands(row)
        told = rule(row, tuple([rows[a][1] for a in ahead]), tuple([facts[a] for a in ahead]))
        facts.append(weakened(rng, told, row[1]))
    return tuple(facts)


# Needs bit by bit: of one asked bit, for each operand the places of the bits it hangs on (point 14).


def trailing(text, sign):
    return leading(text[::-1], sign)


def settled_places(bit, one, other, settles):
    """Of and, or: one and other are the patterns' signs at the bit."""
    first = [] if other == settles and one != settles else [bit]
    return [first, [] if one == settles else [bit]]


def mul_places(bit, one, other):
    h = bit + 1
    u = min(h, trailing(other, "0"))
    g = min(h - u, trailing(one, "0"))
    return [list(range(h - u)), list(range(h - g))]


def moved_places(word, width, v, k, bit):
    """Of a row with one operand: where its bit comes from."""
    top = v - 1
    moved = {
        "left": bit - k, "right": bit + k, "slide": min(bit + k, top), "cut": bit, "wide": bit, "sign": min(bit, top),
        "not": bit,
    }[word]
    return [[moved] if 0 <= moved <= top else []]


def need_places(row, widths, facts, bit):
    word, width = row[0], row[1]
    texts = [pattern_of(fact, v)[0] for fact, v in zip(facts, widths)]
    if word in ("in", "num"):
        return []
    if word in ("and", "or"):
        at = [text[-1 - bit] for text in texts]
        return settled_places(bit, at[0], at[1], "0" if word == "and" else "1")
    if word == "xor":
        return [[bit], [bit]]
    if word in ("add", "sub"):
        return [list(range(bit + 1))] * 2
    if word == "mul":
        return mul_places(bit, texts[0], texts[1])
    if word in COMPARES:
        return [list(range(v)) for v in widths]
    if word == "pick":
        return [[0], [] if texts[0] == "0" else [bit], [] if texts[0] == "1" else [bit]]
    return moved_places(word, width, widths[0], row[3] if word in SHIFTS else 0, bit)


def bits_in(mask):
    return [k for k in range(mask.bit_length()) if mask & 2 ** k]


def reckoned_need(row, widths, facts, mask):
    """All together what the needs of the mask's single bits have."""
    found = [0] * len(widths)
    for bit in bits_in(mask):
        for k, places in enumerate(need_places(row, widths, facts, bit)):
            for place in places:
                found[k] |= 2 ** place
    return tuple(found)


def needs_in(program, facts, k, mask):
    """Of row k: its operands and what it needs of them, as pairs."""
    rows = program[0]
    ahead = row_operands(rows[k])
    found = reckoned_need(rows[k], [rows[a][1] for a in ahead], [facts[a] for a in ahead], mask)
    return list(zip(ahead, found))


def wider_masks(program, facts, seed):
    """Asked bits that are let by, more than the least ones."""
    rng = random.Random(seed)
    rows = program[0]
    masks = [rng.choice((0, 0, 1, 2 ** (row[1] - 1), rng.randrange(2 ** row[1]))) for row in rows]
    for out in program[1]:
        masks[out] = 2 ** rows[out][1] - 1
    for k in reversed(range(len(rows))):
        for a, mask in needs_in(program, facts, k, masks[k]):
            masks[a] |= mask
    return tuple(masks)


def some_stays(program, facts, masks, seed):
    """Stays that are let by, of any word, by point 19; wider than the least ones, but where these are drawn."""
    rng = random.Random(seed)
    found = []
    for row, fact, mask in zip(program[0], facts, masks):
        if row[0] == "in":
            found.append(("cut", row[1]))
        elif mask == 0:
            found.append(None)
        else:
            wanted = ~fact[0] & mask
            alike = range(row[1] - fact[2] + 1, row[1] + 1)
            good = [("cut", kept) for kept in range(mask.bit_length(), row[1] + 1)]
            good += [("nought", kept) for kept in range(max(1, wanted.bit_length()), row[1] + 1)]
            good += [("sign", kept) for kept in alike if mask & 2 ** (kept - 1)]
            good += [("sign", kept) for kept in range(mask.bit_length(), row[1] + 1)]
            found.append(rng.choice(good))
    return tuple(found)
