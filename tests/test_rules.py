"""Points 12 and 13, and 3 (a): the rule of every word, the facts of a program, and the looker of facts.

What is awaited of a rule is reckoned here by patterns: texts of 0, 1 and ?, the highest bit first.
"""

import random
import unittest

from fewbits.facts import closed, holds
from fewbits.rules import facts_of, rule, wrong_fact
from fewbits.runs import run
from helper import (
    BITWISE, COMPARES, EVERY_WORD, SHIFTS, SUMS, TWO_OF_ONE_WIDTH, WORDS, all_kinds, bits_of, closed_pattern, fact_of,
    facts_of_width, leading, pattern_of, reckoned, row_operands, shifted_bits, some_fact, some_inputs, some_program,
    weaker_facts,
)

TOP = 2 ** 64 - 1
NOTHING, NOUGHT, ONE = ("?", 1), ("0", 1), ("1", 1)


def lowest(text):
    return int(text.replace("?", "0"), 2)


def highest(text):
    return int(text.replace("?", "1"), 2)


def bit_pattern(word, a, b):
    known = {"and": ("0", "1"), "or": ("1", "0")}
    if word == "xor":
        return "?" if "?" in a + b else "01"[a != b]
    settles, other = known[word]
    if settles in (a, b):
        return settles
    return other if a == b == other else "?"


def outcome(word, one, other):
    return {"add": one + other, "sub": one - other, "mul": one * other}[word]


def sum_bounds(word, one, other):
    if word == "sub":
        return (lowest(one) - highest(other), highest(one) - lowest(other))
    return (outcome(word, lowest(one), lowest(other)), outcome(word, highest(one), highest(other)))


def laid_over(texts):
    """The texts one over the other: what one of them knows is known."""
    laid = []
    for signs in zip(*texts):
        known = sorted(set(signs) - set("?"))
        assert len(known) < 2, texts
        laid.append(known[0] if known else "?")
    return "".join(laid)


def sum_pattern(word, one, other):
    width = len(one)
    pairs = list(zip(one, other))[::-1]
    count = next((k for k, pair in enumerate(pairs) if "?" in pair), width)
    low = bits_of(outcome(word, lowest(one), lowest(other)) % 2 ** width, width)[width - count:]
    texts = [low.rjust(width, "?")]
    if word == "mul":
        noughts = sum(leading(text[::-1], "0") for text in (one, other))
        texts.append(("0" * min(width, noughts)).rjust(width, "?"))
    least, greatest = sum_bounds(word, one, other)
    if 0 <= least and greatest < 2 ** width:
        ends = (bits_of(least, width), bits_of(greatest, width))
        shared = next((k for k in range(width) if ends[0][k] != ends[1][k]), width)
        texts.append(ends[0][:shared].ljust(width, "?"))
    return laid_over(texts)


def less_pattern(one, other):
    if highest(one) < lowest(other):
        return ONE
    return NOUGHT if lowest(one) >= highest(other) else NOTHING


def top_turned(text):
    return text[0].translate(str.maketrans("01", "10")) + text[1:]


def compare_pattern(word, one, other):
    if word == "same":
        if any("?" not in pair and pair[0] != pair[1] for pair in zip(one, other)):
            return NOUGHT
        return NOTHING if "?" in one + other else ONE
    if word == "less":
        return less_pattern(one, other)
    return less_pattern(top_turned(one), top_turned(other))


def shift_pattern(word, text, alike, k):
    width = len(text)
    counts = {"left": max(1, alike - k), "right": alike if k == 0 else 1, "slide": min(width, alike + k)}
    return (shifted_bits(word, text, k), counts[word])


def fit_pattern(word, width, text, alike):
    v = len(text)
    if word == "cut":
        return (text[v - width:], max(1, alike - (v - width)))
    if word == "wide":
        return (text.rjust(width, "0"), alike if width == v else 1)
    return (text.rjust(width, text[0]), alike + width - v)


def pick_pattern(choice, one, other):
    if choice[0] != "?":
        return one if choice[0] == "1" else other
    text = "".join(a if a == b else "?" for a, b in zip(one[0], other[0]))
    return (text, min(one[1], other[1]))


def open_pattern(row, patterns):
    word, width = row[0], row[1]
    if word == "in":
        return ("?" * width, 1)
    if word == "num":
        return (bits_of(row[2], width), 1)
    text, alike = patterns[0]
    if word == "not":
        return (text.translate(str.maketrans("01", "10")), alike)
    if word in SHIFTS:
        return shift_pattern(word, text, alike, row[3])
    if word in ("cut", "wide", "sign"):
        return fit_pattern(word, width, text, alike)
    other = patterns[1]
    if word in BITWISE:
        return ("".join(bit_pattern(word, a, b) for a, b in zip(text, other[0])), min(alike, other[1]))
    if word in SUMS:
        return (sum_pattern(word, text, other[0]), 1 if word == "mul" else max(1, min(alike, other[1]) - 1))
    if word in COMPARES:
        return compare_pattern(word, text, other[0])
    return pick_pattern(patterns[0], patterns[1], patterns[2])


def awaited_fact(row, patterns):
    return fact_of(*closed_pattern(*open_pattern(row, patterns)))


class Rules(unittest.TestCase):
    def told(self, row, patterns, awaited=None):
        """The rule's fact, of patterns of the operands; as awaited, or as reckoned here."""
        widths = tuple([len(text) for text, alike in patterns])
        facts = tuple([fact_of(*pattern) for pattern in patterns])
        found = rule(row, widths, facts)
        self.assertIs(type(found), tuple)
        self.assertTrue(all_kinds(found, (int,)))
        self.assertEqual(len(found), 3)
        if awaited is not None:
            self.assertEqual(pattern_of(found, row[1]), awaited, (row, patterns))
        self.assertEqual(found, awaited_fact(row, patterns), (row, patterns))
        self.assertEqual(rule(row, widths, facts), found)
        self.assertEqual(closed(found, row[1]), found)
        self.assertTrue(1 <= found[2] <= row[1])
        self.assertEqual(found[0] & found[1], 0)
        return found


class WrittenOut(Rules):
    def two(self, word, one, other, awaited):
        width = 1 if word in COMPARES else len(one[0])
        self.told((word, width, 3, 4), (one, other), awaited)

    def test_in_num_not(self):
        self.told(("in", 1), (), ("?", 1))
        self.told(("in", 64), (), ("?" * 64, 1))
        self.told(("num", 8, 5), (), ("00000101", 5))
        self.told(("num", 8, 0xF0), (), ("11110000", 4))
        self.told(("num", 1, 0), (), ("0", 1))
        self.told(("num", 64, TOP), (), ("1" * 64, 64))
        self.told(("num", 64, 0), (), ("0" * 64, 64))
        self.told(("not", 4, 0), (("0?1?", 1),), ("1?0?", 1))
        self.told(("not", 4, 0), (("???1", 3),), ("???0", 3))
        self.told(("not", 4, 0), (("?0?1", 3),), ("1110", 3))

    def test_bitwise(self):
        one, other = ("000111???", 1), ("01?01?01?", 1)
        self.two("and", one, other, ("00001?0??", 4))
        self.two("or", one, other, ("01?111?1?", 1))
        self.two("xor", one, other, ("01?10????", 1))
        for word in BITWISE:
            self.two(word, ("????", 3), ("????", 2), ("????", 2))
            self.two(word, ("????", 2), ("????", 4), ("????", 2))
            self.two(word, ("?", 1), ("?", 1), ("?", 1))

    def test_low_bits_of_sums(self):
        self.two("add", ("?011", 1), ("?101", 1), ("?000", 1))
        self.two("add", ("?0?1", 1), ("?101", 1), ("???0", 1))
        self.two("add", ("?011", 1), ("?1?1", 1), ("???0", 1))
        self.two("sub", ("?001", 1), ("?011", 1), ("?110", 1))
        self.two("sub", ("0001", 3), ("0011", 2), ("1110", 3))
        self.two("mul", ("??11", 1), ("??11", 1), ("??01", 1))
        self.two("mul", ("?1?1", 1), ("??11", 1), ("???1", 1))

    def test_low_noughts_of_mul(self):
        self.two("mul", ("?????100", 1), ("??????10", 1), ("?????000", 1))
        self.two("mul", ("?????000", 1), ("?????000", 1), ("??000000", 1))
        self.two("mul", ("???00000", 1), ("?????000", 1), ("00000000", 8))
        self.two("mul", ("???00000", 1), ("????0000", 1), ("00000000", 8))
        self.two("mul", ("???00000", 1), ("??????00", 1), ("?0000000", 1))
        self.two("mul", ("??????00", 1), ("????????", 1), ("??????00", 1))
        self.two("mul", ("????????", 1), ("??????00", 1), ("??????00", 1))
        self.two("mul", ("00000000", 1), ("????????", 1), ("00000000", 8))

    def test_the_top_of_add(self):
        # The greatest outcome is 200 + 55 = 255, the last one of the width, and 200 + 56, one beyond.
        self.two("add", ("??00?000", 1), ("00??0???", 1), ("????????", 1))
        self.two("add", ("1?00?000", 1), ("00??0???", 1), ("1???????", 1))
        self.two("add", ("1100?000", 1), ("00110???", 1), ("1111????", 4))
        self.two("add", ("1100?000", 1), ("0011?000", 1), ("????" "?000", 1))
        self.two("add", ("11001000", 1), ("00110111", 1), ("11111111", 8))
        self.two("add", ("11001000", 1), ("00111000", 1), ("00000000", 8))
        self.two("add", ("0000????", 1), ("0000????", 1), ("000?????", 3))
        self.two("add", ("0???", 1), ("0???", 1), ("????", 1))
        self.two("add", ("0???", 1), ("1???", 1), ("????", 1))
        self.two("add", ("00??", 1), ("10??", 1), ("1???", 1))

    def test_the_top_of_mul(self):
        # 15 * 17 = 255, 16 * 16 = 256.
        self.two("mul", ("0000111?", 1), ("0001000?", 1), ("111?" "????", 3))
        self.two("mul", ("00001111", 1), ("00010001", 1), ("11111111", 8))
        self.two("mul", ("000?0000", 1), ("000?0000", 1), ("00000000", 8))
        self.two("mul", ("000?0001", 1), ("000?0000", 1), ("????0000", 1))
        self.two("mul", ("0000????", 1), ("0000????", 1), ("????????", 1))
        self.two("mul", ("000000??", 1), ("000000??", 1), ("0000????", 4))

    def test_the_top_of_sub(self):
        # The least outcome is 5 less 5 = 0, and 5 less 6, one below.
        self.two("sub", ("000?0101", 1), ("00000?0?", 1), ("000?????", 3))
        self.two("sub", ("00000101", 1), ("00000?0?", 1), ("00000???", 5))
        self.two("sub", ("000?0101", 1), ("00000??0", 1), ("???????1", 1))
        self.two("sub", ("1???????", 1), ("00000000", 1), ("1???????", 1))
        self.two("sub", ("1000000?", 1), ("0111111?", 1), ("0000" "00??", 6))
        self.two("sub", ("????????", 1), ("????????", 1), ("????????", 1))

    def test_alike_of_sums(self):
        for word in ("add", "sub"):
            self.two(word, ("????", 4), ("????", 4), ("????", 3))
            self.two(word, ("????", 4), ("????", 2), ("????", 1))
            self.two(word, ("????", 1), ("????", 4), ("????", 1))
            self.two(word, ("????", 3), ("????", 4), ("????", 2))
            self.two(word, ("?", 1), ("?", 1), ("?", 1))
        self.two("mul", ("????", 4), ("????", 4), ("????", 1))

    def test_shifts(self):
        cases = (
            ("left", 0, ("1?0?01", 1), ("1?0?01", 1)), ("left", 2, ("1?0?01", 1), ("0?0100", 1)),
            ("left", 2, ("??????", 5), ("????00", 3)), ("left", 5, ("??????", 5), ("?00000", 1)),
            ("left", 6, ("1?0?01", 1), ("000000", 6)), ("left", 63, ("1?0?01", 1), ("000000", 6)),
            ("right", 0, ("??0?01", 2), ("??0?01", 2)), ("right", 2, ("1?0?01", 1), ("001?0?", 2)),
            ("right", 1, ("??????", 6), ("0?????", 1)), ("right", 6, ("1?0?01", 1), ("000000", 6)),
            ("right", 63, ("??????", 3), ("000000", 6)),
            ("slide", 0, ("??0?01", 2), ("??0?01", 2)), ("slide", 2, ("1?0?01", 1), ("111?0?", 3)),
            ("slide", 2, ("??0?01", 1), ("????0?", 3)), ("slide", 2, ("0?0?01", 1), ("000?0?", 3)),
            ("slide", 6, ("1?0?01", 1), ("111111", 6)), ("slide", 63, ("??0?01", 1), ("??????", 6)),
            ("slide", 3, ("??????", 4), ("??????", 6)), ("slide", 1, ("??????", 4), ("??????", 5)),
        )
        for word, k, pattern, awaited in cases:
            with self.subTest(word=word, k=k, pattern=pattern):
                self.told((word, 6, 0, k), (pattern,), awaited)

    def test_cut_wide_sign(self):
        cases = (
            ("cut", 3, ("1?0?01", 1), ("?01", 1)), ("cut", 4, ("??????", 5), ("????", 3)),
            ("cut", 1, ("??????", 6), ("?", 1)), ("cut", 6, ("??????", 4), ("??????", 4)),
            ("cut", 3, ("??????", 4), ("???", 1)), ("cut", 3, ("??????", 5), ("???", 2)),
            ("wide", 8, ("1?0?01", 1), ("001?0?01", 2)), ("wide", 6, ("??????", 4), ("??????", 4)),
            ("wide", 7, ("??????", 6), ("0??????", 1)), ("wide", 64, ("?", 1), ("0" * 63 + "?", 63)),
            ("sign", 8, ("1?0?01", 1), ("111?0?01", 3)), ("sign", 8, ("??0?01", 1), ("????0?01", 3)),
            ("sign", 8, ("0?0?01", 1), ("000?0?01", 3)), ("sign", 6, ("??????", 4), ("??????", 4)),
            ("sign", 8, ("??????", 4), ("????????", 6)), ("sign", 64, ("?", 1), ("?" * 64, 64)),
        )
        for word, width, pattern, awaited in cases:
            with self.subTest(word=word, width=width, pattern=pattern):
                self.told((word, width, 0), (pattern,), awaited)

    def test_compares(self):
        cases = (
            ("same", "0???", "1???", NOUGHT), ("same", "???0", "1??1", NOUGHT), ("same", "0101", "0101", ONE),
            ("same", "0101", "0100", NOUGHT), ("same", "0101", "010?", NOTHING), ("same", "010?", "0101", NOTHING),
            ("same", "????", "????", NOTHING), ("same", "?", "?", NOTHING), ("same", "1", "1", ONE),
            ("less", "00??", "01??", ONE), ("less", "00??", "0011", NOTHING), ("less", "000?", "0010", ONE),
            ("less", "0011", "00??", NOUGHT), ("less", "01??", "00??", NOUGHT), ("less", "0010", "00??", NOTHING),
            ("less", "????", "0000", NOUGHT), ("less", "1111", "????", NOUGHT), ("less", "????", "????", NOTHING),
            ("less", "0???", "1???", ONE), ("less", "1???", "0???", NOUGHT), ("less", "0101", "0101", NOUGHT),
            ("under", "0???", "1???", NOUGHT), ("under", "1???", "0???", ONE), ("under", "?111", "0111", NOTHING),
            ("under", "0111", "????", NOUGHT), ("under", "????", "1000", NOUGHT), ("under", "100?", "1010", ONE),
            ("under", "1010", "100?", NOUGHT), ("under", "00??", "01??", ONE), ("under", "????", "????", NOTHING),
            ("under", "0", "1", NOUGHT), ("under", "1", "0", ONE), ("under", "?", "0", NOTHING),
            ("under", "?", "1", NOUGHT), ("under", "0", "?", NOUGHT),
        )
        for word, one, other, awaited in cases:
            with self.subTest(word=word, one=one, other=other):
                self.told((word, 1, 5, 6), ((one, 1), (other, 1)), awaited)

    def test_pick(self):
        one, other = ("001?1?", 1), ("0111??", 1)
        self.told(("pick", 6, 0, 1, 2), (("1", 1), one, other), ("001?1?", 2))
        self.told(("pick", 6, 0, 1, 2), (("0", 1), one, other), ("0111??", 1))
        self.told(("pick", 6, 0, 1, 2), (("?", 1), one, other), ("0?1???", 1))
        self.told(("pick", 4, 0, 1, 2), (("?", 1), ("????", 3), ("????", 2)), ("????", 2))
        self.told(("pick", 4, 0, 1, 2), (("1", 1), ("????", 3), ("????", 2)), ("????", 3))
        self.told(("pick", 4, 0, 1, 2), (("0", 1), ("????", 3), ("????", 4)), ("????", 4))
        self.told(("pick", 4, 0, 1, 2), (("?", 1), ("0001", 3), ("0001", 3)), ("0001", 3))


class Many(Rules):
    def test_two_of_few_bits(self):
        for width in (1, 2, 3):
            patterns = facts_of_width(width)
            for one in patterns:
                for other in patterns:
                    for word in TWO_OF_ONE_WIDTH:
                        self.told((word, width, 0, 1), (one, other))
                    for word in COMPARES:
                        self.told((word, 1, 0, 1), (one, other))

    def test_one_of_few_bits(self):
        for width in (1, 2, 3, 4, 5):
            for pattern in facts_of_width(width):
                self.told(("not", width, 0), (pattern,))
                for word in SHIFTS:
                    for k in (0, 1, width - 1, width, width + 1, 63):
                        self.told((word, width, 0, k), (pattern,))
                for less in range(1, width + 1):
                    self.told(("cut", less, 0), (pattern,))
                for wider in (width, width + 1, 9, 64):
                    self.told(("wide", wider, 0), (pattern,))
                    self.told(("sign", wider, 0), (pattern,))

    def test_pick_of_few_bits(self):
        for width in (1, 2):
            patterns = facts_of_width(width)
            for choice in (NOTHING, NOUGHT, ONE):
                for one in patterns:
                    for other in patterns:
                        self.told(("pick", width, 0, 1, 2), (choice, one, other))

    def test_any(self):
        rng = random.Random(12)
        for _ in range(2500):
            width = rng.choice((1, 4, 8, 16, 32, 63, 64))
            one, other = some_fact(rng, width), some_fact(rng, width)
            word = rng.choice(TWO_OF_ONE_WIDTH)
            self.told((word, width, 0, 1), (one, other))
            self.told((rng.choice(COMPARES), 1, 0, 1), (one, other))
            self.told((rng.choice(SHIFTS), width, 0, rng.randint(0, 63)), (one,))
            self.told(("cut", rng.randint(1, width), 0), (one,))
            self.told((rng.choice(("wide", "sign")), rng.randint(width, 64), 0), (one,))
            self.told(("pick", width, 0, 1, 2), (rng.choice((NOTHING, NOUGHT, ONE)), one, other))

    def test_low_bits_or_high_bits_alone(self):
        for width in (8, 64):
            for count in (1, 3, width - 1):
                low = ("101" * 22)[:count].rjust(width, "?")
                high = ("010" * 22)[:count].ljust(width, "?")
                for one in (low, high, "?" * width):
                    for other in (low, high, "0" * width, "1" * width):
                        for word in TWO_OF_ONE_WIDTH:
                            self.told((word, width, 0, 1), ((one, 1), (other, 1)))
                        for word in COMPARES:
                            self.told((word, 1, 0, 1), ((one, 1), (other, 1)))


class Sound(unittest.TestCase):
    """What a rule tells holds of what the word tells of numbers of which the operands' facts hold."""

    def holds_of_all(self, row, width, patterns):
        numbers = [[n for n in range(2 ** width) if holds(fact_of(*pattern), n, width)] for pattern in patterns]
        widths = (width,) * len(patterns)
        fact = rule(row, widths, tuple([fact_of(*pattern) for pattern in patterns]))
        for one in numbers[0]:
            for other in numbers[-1]:
                tried = (one, other)[:len(patterns)]
                self.assertTrue(holds(fact, reckoned(row, widths, tried), row[1]), (row, patterns, tried))

    def test_two(self):
        for width in (1, 2, 3):
            patterns = [each for each in facts_of_width(width) if width < 3 or each == closed_pattern(*each)]
            for one in patterns:
                for other in patterns:
                    for word in TWO_OF_ONE_WIDTH:
                        self.holds_of_all((word, width, 0, 1), width, (one, other))
                    for word in COMPARES:
                        self.holds_of_all((word, 1, 0, 1), width, (one, other))

    def test_one(self):
        for width in (1, 2, 3):
            for pattern in facts_of_width(width):
                rows = [("not", width, 0), ("cut", 1, 0), ("cut", width, 0)]
                rows.extend([(word, width, 0, k) for word in SHIFTS for k in (0, 1, 2, 3, 63)])
                rows.extend([(word, wider, 0) for word in ("wide", "sign") for wider in (width, width + 2)])
                for row in rows:
                    self.holds_of_all(row, width, (pattern,))


def reckoned_facts(program):
    patterns = []
    for row in program[0]:
        patterns.append(closed_pattern(*open_pattern(row, [patterns[a] for a in row_operands(row)])))
    return tuple([fact_of(*pattern) for pattern in patterns])


class FactsOf(unittest.TestCase):
    def test_by_hand(self):
        program = (
            (("in", 8), ("num", 8, 15), ("and", 8, 0, 1), ("left", 8, 2, 2), ("less", 1, 3, 1), ("same", 1, 1, 1)), (3,),
        )
        awaited = ((0, 0, 1), (240, 15, 4), (240, 0, 4), (0b11000011, 0, 2), (0, 0, 1), (0, 1, 1))
        self.assertEqual(facts_of(program), awaited)

    def test_each_by_its_rule(self):
        for seed in range(80):
            program = some_program(seed, 40, 1 + seed % 64, seed % 6)
            found = facts_of(program)
            with self.subTest(seed=seed):
                self.assertIs(type(found), tuple)
                self.assertTrue(all_kinds(found, (int,)))
                self.assertEqual(found, reckoned_facts(program))
                self.assertEqual(facts_of(program), found)
        self.assertEqual(facts_of(EVERY_WORD), reckoned_facts(EVERY_WORD))
        self.assertEqual(sorted(set(row[0] for row in EVERY_WORD[0])), sorted(WORDS))


class WrongFact(unittest.TestCase):
    def test_none_of_the_own_and_of_weaker_ones(self):
        for seed in range(60):
            program = some_program(seed, 30, 1 + seed % 64, seed % 6)
            own = facts_of(program)
            with self.subTest(seed=seed):
                self.assertIsNone(wrong_fact(program, own))
                self.assertIsNone(wrong_fact(program, tuple([(0, 0, 1)] * len(own))))
                self.assertIsNone(wrong_fact(program, weaker_facts(program, seed)))

    def test_weaker_in_each_part(self):
        program = ((("num", 4, 0b0011), ("in", 4)), (0,))
        for fact in ((0b1100, 0b0011, 2), (0b1000, 0b0011, 2), (0b1100, 0b0001, 2), (0b1100, 0b0011, 1), (0, 0, 1)):
            self.assertIsNone(wrong_fact(program, (fact, (0, 0, 1))))
        for fact in ((0b1100, 0b0011, 3), (0b1101, 0b0010, 2), (0b1100, 0b0111, 2), (0, 0b0100, 1), (0, 0, 3)):
            found = wrong_fact(program, (fact, (0, 0, 1)))
            self.assertEqual(found, 0)
            self.assertIs(type(found), int)
        for fact in ((1, 0, 1), (0, 1, 1), (0, 0, 2)):
            self.assertEqual(wrong_fact(program, ((0, 0, 1), fact)), 1)

    def test_by_the_facts_in_the_tuple(self):
        # What row 2 tells hangs on what is told of row 1, not on what could be told.
        program = ((("in", 8), ("num", 8, 15), ("and", 8, 0, 1)), (2,))
        self.assertIsNone(wrong_fact(program, ((0, 0, 1), (240, 15, 4), (240, 0, 4))))
        self.assertEqual(wrong_fact(program, ((0, 0, 1), (224, 15, 3), (240, 0, 4))), 2)
        self.assertIsNone(wrong_fact(program, ((0, 0, 1), (224, 15, 3), (224, 0, 3))))

    def test_the_first_row_that_says_too_much(self):
        for seed in range(60):
            rng = random.Random(seed)
            program = some_program(seed, 20, 16)
            facts = list(weaker_facts(program, seed))
            bad = [k for k, row in enumerate(program[0]) if row[0] == "in"] + list(range(3, 20))
            first = rng.choice(bad)
            width = program[0][first][1]
            own = facts_of(program)[first]
            free = [k for k in range(width) if not (own[0] | own[1]) & 2 ** k]
            if free:
                number = run(program, some_inputs(program, seed)[2])[first]
                facts[first] = (2 ** width - 1 - number, number, 1)
                with self.subTest(seed=seed, first=first):
                    self.assertEqual(wrong_fact(program, tuple(facts)), first)
                    behind = [(2 ** row[1] - 1, 0, row[1]) for row in program[0][first + 1:]]
                    self.assertEqual(wrong_fact(program, tuple(facts[:first + 1] + behind)), first)

    def test_too_much_at_ins(self):
        program = ((("in", 8), ("in", 8), ("xor", 8, 0, 1)), (2,))
        self.assertEqual(wrong_fact(program, ((0, 0, 1), (1, 0, 1), (0, 128, 1))), 1)
        self.assertEqual(wrong_fact(program, ((0, 0, 2), (1, 0, 1), (0, 0, 1))), 0)
        self.assertEqual(wrong_fact(program, ((0, 0, 1), (0, 0, 1), (0, 1, 1))), 2)


class HoldInEveryRun(unittest.TestCase):
    """Point 3 (a)."""

    def test_facts_that_are_let_by(self):
        for seed in range(100):
            program = some_program(seed, 30, 1 + seed % 64, 1 + seed % 4)
            for facts in (facts_of(program), weaker_facts(program, seed)):
                self.assertIsNone(wrong_fact(program, facts))
                for inputs in some_inputs(program, seed, 8):
                    for number, fact, row in zip(run(program, inputs), facts, program[0]):
                        self.assertTrue(holds(fact, number, row[1]), (seed, row))


if __name__ == "__main__":
    unittest.main()
