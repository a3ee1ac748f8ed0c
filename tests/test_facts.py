"""Point 11: facts, of what numbers they hold, which is weaker, and how they are closed."""

import random
import unittest

from fewbits.facts import closed, greatest, holds, least, weaker
from helper import all_kinds, bits_of, closed_pattern, fact_of, facts_of_width, some_fact

TOP = 2 ** 64 - 1


def fits(text, alike, number):
    """Whether the number has the text's bits, and its so many highest bits alike."""
    bits = bits_of(number, len(text))
    if any(known != "?" and known != bit for known, bit in zip(text, bits)):
        return False
    return len(set(bits[:alike])) == 1


class Holds(unittest.TestCase):
    def told(self, fact, number, width, awaited):
        self.assertIs(holds(fact, number, width), awaited, (fact, number, width))
        self.assertIs(holds(fact, number, width), awaited)

    def test_nothing_known(self):
        for width in (1, 2, 8, 63, 64):
            for number in (0, 1, 2 ** (width - 1), 2 ** width - 1):
                self.told((0, 0, 1), number, width, True)

    def test_known_bits(self):
        self.told((0b0011, 0b1000, 1), 0b1100, 4, True)
        self.told((0b0011, 0b1000, 1), 0b1000, 4, True)
        self.told((0b0011, 0b1000, 1), 0b0100, 4, False)
        self.told((0b0011, 0b1000, 1), 0b1101, 4, False)
        self.told((0b0011, 0b1000, 1), 0b1110, 4, False)

    def test_alike(self):
        self.told((0, 0, 3), 0b11101, 5, True)
        self.told((0, 0, 3), 0b00001, 5, True)
        self.told((0, 0, 3), 0b11001, 5, False)
        self.told((0, 0, 3), 0b00101, 5, False)
        self.told((0, 0, 3), 0b10001, 5, False)
        self.told((0, 0, 5), 0b11111, 5, True)
        self.told((0, 0, 5), 0b11110, 5, False)
        self.told((0, 0, 64), TOP, 64, True)
        self.told((0, 0, 64), TOP - 1, 64, False)
        self.told((0, 0, 64), 0, 64, True)
        self.told((0, 0, 64), 1, 64, False)

    def test_each_single_bit_turned(self):
        for width in (1, 2, 7, 64):
            for number in (0, 1, 2 ** width - 1, 0x9E3779B97F4A7C15 % 2 ** width):
                fact = (2 ** width - 1 - number, number, 1)
                self.told(fact, number, width, True)
                for k in range(width):
                    self.told(fact, number ^ 2 ** k, width, False)
                    without = (fact[0] & ~2 ** k, fact[1] & ~2 ** k, 1)
                    self.told(without, number ^ 2 ** k, width, True)

    def test_each_single_alike_bit_turned(self):
        for width in (2, 7, 64):
            for alike in range(2, width + 1):
                for number in (0, 2 ** width - 1):
                    for k in range(width):
                        self.told((0, 0, alike), number ^ 2 ** k, width, k < width - alike)

    def test_few_bits(self):
        for width in (1, 2, 3, 4):
            for text, alike in facts_of_width(width):
                for number in range(2 ** width):
                    self.told(fact_of(text, alike), number, width, fits(text, alike, number))


class Weaker(unittest.TestCase):
    def test_by_hand(self):
        cases = (
            ((0, 0, 1), (0, 0, 1), True), ((0, 0, 1), (5, 2, 3), True), ((5, 2, 3), (5, 2, 3), True),
            ((1, 2, 3), (5, 2, 3), True), ((5, 0, 3), (5, 2, 3), True), ((5, 2, 2), (5, 2, 3), True),
            ((5, 2, 4), (5, 2, 3), False), ((7, 0, 1), (5, 2, 3), False), ((5, 10, 1), (5, 2, 3), False),
            ((2, 0, 1), (0, 2, 1), False), ((0, 2, 1), (2, 0, 1), False), ((5, 2, 3), (0, 0, 1), False),
            ((0, 0, 64), (TOP, 0, 64), True), ((TOP, 0, 64), (TOP - 1, 0, 64), False), ((0, 1, 1), (0, TOP, 64), True),
        )
        for one, other, awaited in cases:
            with self.subTest(one=one, other=other):
                self.assertIs(weaker(one, other), awaited)

    def test_both_ways(self):
        facts = [fact_of(text, alike) for width in (1, 2, 3) for text, alike in facts_of_width(width)]
        for one in facts:
            for other in facts:
                awaited = (
                    all(not one[0] & 2 ** k or other[0] & 2 ** k for k in range(3))
                    and all(not one[1] & 2 ** k or other[1] & 2 ** k for k in range(3)) and not one[2] > other[2]
                )
                self.assertIs(weaker(one, other), awaited)
                if weaker(one, other) and weaker(other, one):
                    self.assertEqual(one, other)

    def test_what_a_stronger_one_holds_of(self):
        facts = [fact_of(text, alike) for text, alike in facts_of_width(3)]
        for one in facts:
            for other in facts:
                if weaker(one, other):
                    for number in range(8):
                        self.assertTrue(holds(one, number, 3) or not holds(other, number, 3))


class Closed(unittest.TestCase):
    def told(self, fact, width, awaited):
        found = closed(fact, width)
        self.assertIs(type(found), tuple)
        self.assertTrue(all_kinds(found, (int,)))
        self.assertEqual(found, awaited, (fact, width))
        self.assertEqual(closed(found, width), found)
        self.assertTrue(weaker(fact, found))

    def test_by_hand(self):
        cases = (
            ((0, 0, 1), 1, (0, 0, 1)), ((1, 0, 1), 1, (1, 0, 1)), ((0, 1, 1), 1, (0, 1, 1)),
            ((0, 0, 1), 64, (0, 0, 1)), ((0, 0, 64), 64, (0, 0, 64)), ((0, 0, 5), 8, (0, 0, 5)),
            ((0b10000000, 0, 3), 8, (0b11100000, 0, 3)), ((0b00100000, 0, 3), 8, (0b11100000, 0, 3)),
            ((0, 0b01000000, 3), 8, (0, 0b11100000, 3)), ((0b00010000, 0, 3), 8, (0b00010000, 0, 3)),
            ((0b00110000, 0, 3), 8, (0b11110000, 0, 4)), ((0, 0b00111000, 3), 8, (0, 0b11111000, 5)),
            ((0b11110000, 0, 1), 8, (0b11110000, 0, 4)), ((0, 0b11110000, 1), 8, (0, 0b11110000, 4)),
            ((0b01110000, 0, 1), 8, (0b01110000, 0, 1)), ((0b00001111, 0b11110000, 2), 8, (0b00001111, 0b11110000, 4)),
            ((1, 0, 64), 64, (TOP, 0, 64)), ((0, 1, 64), 64, (0, TOP, 64)), ((1, 0, 63), 64, (1, 0, 63)),
            ((2, 0, 63), 64, (TOP - 1, 0, 63)), ((3, 0, 63), 64, (TOP, 0, 64)), ((1, 2, 63), 64, (1, TOP - 1, 63)),
            ((TOP, 0, 1), 64, (TOP, 0, 64)), ((0, TOP, 1), 64, (0, TOP, 64)), ((0b10, 0b01, 2), 3, (0b110, 0b001, 2)),
        )
        for fact, width, awaited in cases:
            with self.subTest(fact=fact, width=width):
                self.told(fact, width, awaited)

    def test_one_known_bit_among_the_alike(self):
        for width in (2, 5, 64):
            for alike in range(1, width + 1):
                top = 2 ** width - 2 ** (width - alike)
                for k in range(width - alike, width):
                    self.told((2 ** k, 0, alike), width, (top, 0, alike))
                    self.told((0, 2 ** k, alike), width, (0, top, alike))
                if alike < width:
                    just_below = 2 ** (width - alike - 1)
                    self.told((just_below, 0, alike), width, (just_below, 0, max(alike, 1)))

    def test_few_bits(self):
        for width in (1, 2, 3, 4, 5):
            for text, alike in facts_of_width(width):
                self.told(fact_of(text, alike), width, fact_of(*closed_pattern(text, alike)))

    def test_it_holds_of_the_same(self):
        for text, alike in facts_of_width(4):
            fact = fact_of(text, alike)
            for number in range(16):
                self.assertEqual(holds(fact, number, 4), holds(closed(fact, 4), number, 4))

    def test_any(self):
        rng = random.Random(11)
        for _ in range(600):
            width = rng.choice((1, 2, 8, 33, 63, 64))
            text, alike = some_fact(rng, width)
            self.told(fact_of(text, alike), width, fact_of(*closed_pattern(text, alike)))


class LeastAndGreatest(unittest.TestCase):
    def test_by_hand(self):
        for fact, width, low, high in (
            ((0, 0, 1), 1, 0, 1), ((1, 0, 1), 1, 0, 0), ((0, 1, 1), 1, 1, 1), ((0b0011, 0b1000, 1), 4, 0b1000, 0b1100),
            ((0, 0, 1), 64, 0, TOP), ((TOP, 0, 64), 64, 0, 0), ((0, TOP, 64), 64, TOP, TOP), ((0, 0, 4), 4, 0, 15),
        ):
            with self.subTest(fact=fact, width=width):
                self.assertEqual((least(fact), greatest(fact, width)), (low, high))
                self.assertIs(type(least(fact)), int)
                self.assertIs(type(greatest(fact, width)), int)

    def test_few_bits(self):
        for width in (1, 2, 3, 4):
            for text, alike in facts_of_width(width):
                fact = fact_of(text, alike)
                self.assertEqual(least(fact), int(text.replace("?", "0"), 2))
                self.assertEqual(greatest(fact, width), int(text.replace("?", "1"), 2))


if __name__ == "__main__":
    unittest.main()
