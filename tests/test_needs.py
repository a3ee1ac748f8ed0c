"""Point 14: the need of every word."""

import itertools
import random
import unittest

from fewbits.facts import holds
from fewbits.needs import need
from helper import (
    COMPARES, SHIFTS, TWO_OF_ONE_WIDTH, WORDS, all_kinds, bits_in, closed_pattern, fact_of, facts_of_width,
    reckoned, reckoned_need, some_fact,
)

FREE = "????????"


class Needs(unittest.TestCase):
    def told(self, row, patterns, mask, awaited=None):
        """The need, of patterns (texts alone, alike 1, or pairs) of the operands; as awaited, or as reckoned bit by bit."""
        patterns = [(each, 1) if isinstance(each, str) else each for each in patterns]
        widths = tuple([len(text) for text, alike in patterns])
        facts = tuple([fact_of(*pattern) for pattern in patterns])
        found = need(row, widths, facts, mask)
        self.assertIs(type(found), tuple)
        self.assertTrue(all_kinds(found, (int,)))
        if awaited is not None:
            self.assertEqual(found, awaited, (row, patterns, bin(mask)))
        self.assertEqual(found, reckoned_need(row, widths, facts, mask), (row, patterns, bin(mask)))
        self.assertEqual(need(row, widths, facts, mask), found)
        for part, width in zip(found, widths):
            self.assertTrue(0 <= part < 2 ** width)
        if mask == 0:
            self.assertEqual(found, (0,) * len(widths))
        return found


class WrittenOut(Needs):
    def test_in_num_not_xor(self):
        for mask in (0, 1, 0x80, 0xFF):
            self.told(("in", 8), (), mask, ())
            self.told(("num", 8, 3), (), mask, ())
            self.told(("not", 8, 0), (FREE,), mask, (mask,))
            self.told(("xor", 8, 0, 1), (FREE, "0101????"), mask, (mask, mask))

    def test_and_or(self):
        for word, sign, other in (("and", "0", "1"), ("or", "1", "0")):
            known = sign * 4 + "????"
            self.told((word, 8, 0, 1), (FREE, FREE), 0x3C, (0x3C, 0x3C))
            self.told((word, 8, 0, 1), (FREE, known), 0x3C, (0x0C, 0x3C))
            self.told((word, 8, 0, 1), (known, FREE), 0x3C, (0x3C, 0x0C))
            self.told((word, 8, 0, 1), (known, known), 0x3C, (0x3C, 0x0C))
            self.told((word, 8, 0, 1), ("????" + sign * 4, known), 0xFF, (0x0F, 0xF0))
            self.told((word, 8, 0, 1), (other * 8, other * 8), 0xFF, (0xFF, 0xFF))
            self.told((word, 8, 0, 1), (FREE, other * 8), 0x81, (0x81, 0x81))
            self.told((word, 8, 0, 1), (FREE, sign * 8), 0xFF, (0, 0xFF))
            self.told((word, 8, 0, 1), (sign * 8, FREE), 0xFF, (0xFF, 0))
            self.told((word, 8, 0, 1), (sign * 8, sign * 8), 0xFF, (0xFF, 0))
            self.told((word, 8, 0, 1), (known, known), 0, (0, 0))

    def test_add_sub(self):
        for word in ("add", "sub"):
            for mask, awaited in ((0, 0), (1, 1), (2, 3), (4, 7), (0x50, 0x7F), (0x80, 0xFF), (0xFF, 0xFF)):
                self.told((word, 8, 0, 1), (FREE, "00000000"), mask, (awaited, awaited))

    def test_mul(self):
        cases = (
            (FREE, FREE, 0x10, (0x1F, 0x1F)), (FREE, FREE, 0, (0, 0)), (FREE, FREE, 1, (1, 1)),
            (FREE, "?????000", 0x10, (0x03, 0x1F)), ("?????000", FREE, 0x10, (0x1F, 0x03)),
            ("?????000", "??????00", 0x10, (0x07, 0x03)), ("??????00", "?????000", 0x10, (0x03, 0x07)),
            (FREE, "???00000", 0x10, (0, 0x1F)), (FREE, "00000000", 0x10, (0, 0x1F)),
            ("???00000", FREE, 0x10, (0x1F, 0)), ("????0000", FREE, 0x10, (0x1F, 0x01)),
            ("????0000", "????0000", 0x10, (0x01, 0x0F)), ("????0000", "?????000", 0x10, (0x03, 0x07)),
            ("00000000", "00000000", 0xFF, (0, 0xFF)), ("00000000", "????0000", 0xFF, (0x0F, 0x0F)),
            ("00000000", FREE, 0xFF, (0xFF, 0)), ("?????001", "?????010", 0xFF, (0x7F, 0xFF)),
        )
        for one, other, mask, awaited in cases:
            with self.subTest(one=one, other=other, mask=mask):
                self.told(("mul", 8, 0, 1), (one, other), mask, awaited)

    def test_shifts(self):
        cases = (
            ("left", 0, 0xA5, 0xA5), ("left", 3, 0xA5, 0x14), ("left", 3, 0x07, 0), ("left", 7, 0xFF, 0x01),
            ("left", 8, 0xFF, 0), ("left", 63, 0xFF, 0), ("left", 3, 0, 0),
            ("right", 0, 0xA5, 0xA5), ("right", 3, 0xA5, 0x28), ("right", 3, 0xE0, 0), ("right", 7, 0xFF, 0x80),
            ("right", 8, 0xFF, 0), ("right", 63, 0xFF, 0), ("right", 3, 0, 0),
            ("slide", 0, 0xA5, 0xA5), ("slide", 3, 0x05, 0x28), ("slide", 3, 0x10, 0x80), ("slide", 3, 0x20, 0x80),
            ("slide", 3, 0xE1, 0x88), ("slide", 7, 0xFF, 0x80), ("slide", 8, 0x01, 0x80), ("slide", 63, 0xFF, 0x80),
            ("slide", 63, 0x01, 0x80), ("slide", 3, 0, 0),
        )
        for word, k, mask, awaited in cases:
            with self.subTest(word=word, k=k, mask=mask):
                self.told((word, 8, 0, k), (FREE,), mask, (awaited,))

    def test_cut_wide_sign(self):
        cases = (
            ("cut", 4, 0x0F, 0x0F), ("cut", 4, 0x09, 0x09), ("cut", 4, 0, 0), ("cut", 8, 0xFF, 0xFF),
            ("wide", 12, 0xFFF, 0xFF), ("wide", 12, 0xF00, 0), ("wide", 12, 0x181, 0x81), ("wide", 8, 0x81, 0x81),
            ("sign", 12, 0xFFF, 0xFF), ("sign", 12, 0xF00, 0x80), ("sign", 12, 0x100, 0x80), ("sign", 12, 0x801, 0x81),
            ("sign", 12, 0x041, 0x41), ("sign", 8, 0x41, 0x41), ("sign", 12, 0, 0), ("sign", 64, 2 ** 63, 0x80),
        )
        for word, width, mask, awaited in cases:
            with self.subTest(word=word, width=width, mask=mask):
                self.told((word, width, 0), (FREE,), mask, (awaited,))

    def test_compares(self):
        for word in COMPARES:
            self.told((word, 1, 0, 1), (FREE, "00000000"), 1, (0xFF, 0xFF))
            self.told((word, 1, 0, 1), (FREE, FREE), 0, (0, 0))
            self.told((word, 1, 0, 1), ("?" * 64, "?" * 64), 1, (2 ** 64 - 1, 2 ** 64 - 1))

    def test_pick(self):
        for mask in (1, 0x3C, 0xFF):
            self.told(("pick", 8, 0, 1, 2), ("?", FREE, FREE), mask, (1, mask, mask))
            self.told(("pick", 8, 0, 1, 2), ("1", FREE, FREE), mask, (1, mask, 0))
            self.told(("pick", 8, 0, 1, 2), ("0", FREE, FREE), mask, (1, 0, mask))
        for choice in "?10":
            self.told(("pick", 8, 0, 1, 2), (choice, FREE, FREE), 0, (0, 0, 0))


def rows_of(width):
    """Rows of every word with two operands of the width, but for those of one operand or another width."""
    return [(word, width, 0, 1) for word in TWO_OF_ONE_WIDTH] + [(word, 1, 0, 1) for word in COMPARES]


def single_rows(width):
    rows = [("not", width, 0)] + [("cut", less, 0) for less in (1, width)]
    rows.extend([(word, width, 0, k) for word in SHIFTS for k in (0, 1, width - 1, width, 63)])
    rows.extend([(word, wider, 0) for word in ("wide", "sign") for wider in (width, width + 1, 64)])
    return rows


class Many(Needs):
    def test_two_of_few_bits(self):
        for width in (1, 2, 3):
            patterns = [each for each in facts_of_width(width) if each == closed_pattern(*each)]
            for one in patterns:
                for other in patterns:
                    for row in rows_of(width):
                        for mask in range(2 ** row[1]):
                            self.told(row, (one, other), mask)

    def test_one_of_few_bits(self):
        for width in (1, 2, 3, 4):
            for row in single_rows(width):
                for mask in (0, 1, 2 ** (row[1] - 1), 2 ** row[1] - 1, 2 ** min(width, row[1]) - 1):
                    self.told(row, ("?" * width,), mask)

    def test_any(self):
        rng = random.Random(14)
        for _ in range(1500):
            width = rng.choice((1, 8, 16, 33, 64))
            one, other = some_fact(rng, width), some_fact(rng, width)
            for row in rows_of(width):
                masks = (0, 1, 2 ** rng.randrange(row[1]), 2 ** row[1] - 1, rng.randrange(2 ** row[1]))
                self.told(row, (one, other), rng.choice(masks))
            for row in single_rows(width):
                if row[1] <= 64:
                    self.told(row, (one,), rng.choice((2 ** rng.randrange(row[1]), rng.randrange(2 ** row[1]))))
            self.told(("pick", width, 0, 1, 2), (rng.choice("?01"), one, other), rng.randrange(2 ** width))

    def test_all_together_what_single_bits_need(self):
        rng = random.Random(15)
        for _ in range(200):
            width = rng.choice((8, 64))
            facts = (fact_of(*some_fact(rng, width)), fact_of(*some_fact(rng, width)))
            for row in rows_of(width):
                mask = rng.randrange(2 ** row[1])
                together = [0, 0]
                for bit in bits_in(mask):
                    for k, part in enumerate(need(row, (width, width), facts, 2 ** bit)):
                        together[k] |= part
                self.assertEqual(need(row, (width, width), facts, mask), tuple(together))


class Sound(unittest.TestCase):
    """Turned bits that are not needed leave the asked bits as they are."""

    def stays(self, row, width, patterns):
        facts = tuple([fact_of(*pattern) for pattern in patterns])
        widths = (width,) * len(facts)
        numbers = [[n for n in range(2 ** width) if holds(fact, n, width)] for fact in facts]
        for mask in range(2 ** row[1]):
            free = [2 ** width - 1 - part for part in need(row, widths, facts, mask)]
            turns = [[n for n in range(2 ** width) if n & ~part == 0] for part in free]
            for tried in itertools.product(*numbers):
                plain = reckoned(row, widths, tried) & mask
                for turn in itertools.product(*turns):
                    other = [number ^ part for number, part in zip(tried, turn)]
                    self.assertEqual(reckoned(row, widths, other) & mask, plain, (row, patterns, mask, tried, turn))

    def test_two(self):
        for width in (1, 2):
            for one in facts_of_width(width):
                for other in facts_of_width(width):
                    for row in rows_of(width):
                        self.stays(row, width, (one, other))

    def test_one(self):
        for width in (1, 2, 3):
            for pattern in facts_of_width(width):
                for row in single_rows(width):
                    if row[1] <= width + 1:
                        self.stays(row, width, (pattern,))

    def test_mul_of_three_bits(self):
        for one in ("???", "??0", "?00", "000"):
            for other in ("???", "??0", "?00", "000"):
                self.stays(("mul", 3, 0, 1), 3, ((one, 1), (other, 1)))


class Words(unittest.TestCase):
    def test_every_word_is_tried(self):
        words = set(row[0] for row in rows_of(2) + single_rows(2)) | set(("in", "num", "pick"))
        self.assertEqual(sorted(words), sorted(WORDS))


if __name__ == "__main__":
    unittest.main()
