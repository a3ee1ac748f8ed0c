"""Point 17: prices."""

import unittest

from fewbits.prices import price
from helper import BITWISE, COMPARES, EVERY_WORD, SHIFTS, WORDS, some_program

AHEAD = (("in", 12), ("in", 12), ("in", 1), ("num", 64, 5))


def price_of(row):
    return price((AHEAD + (row,), (0,)))


class Price(unittest.TestCase):
    def test_each_word(self):
        cases = [(("in", 12), 0), (("num", 12, 5), 0), (("not", 12, 0), 12), (("pick", 12, 2, 0, 1), 12)]
        cases += [((word, 12, 0, 1), 12) for word in BITWISE]
        cases += [(("add", 12, 0, 1), 24), (("sub", 12, 0, 1), 24), (("mul", 12, 0, 1), 144)]
        cases += [((word, 12, 0, 5), 0) for word in SHIFTS]
        cases += [(("cut", 5, 0), 0), (("wide", 64, 0), 0), (("sign", 64, 0), 0)]
        cases += [((word, 1, 0, 1), 12) for word in COMPARES]
        self.assertEqual(sorted(set(row[0] for row, awaited in cases)), sorted(WORDS))
        for row, awaited in cases:
            with self.subTest(row=row):
                self.assertEqual(price_of(row), awaited)
                self.assertIs(type(price_of(row)), int)

    def test_compares_by_their_operands(self):
        for word in COMPARES:
            self.assertEqual(price_of((word, 1, 3, 3)), 64)
            self.assertEqual(price_of((word, 1, 2, 2)), 1)

    def test_widths_1_and_64(self):
        self.assertEqual(price_of(("mul", 1, 2, 2)), 1)
        self.assertEqual(price_of(("mul", 64, 3, 3)), 4096)
        self.assertEqual(price_of(("add", 1, 2, 2)), 2)
        self.assertEqual(price_of(("sub", 64, 3, 3)), 128)
        self.assertEqual(price_of(("not", 1, 2)), 1)
        self.assertEqual(price_of(("pick", 64, 2, 3, 3)), 64)

    def test_the_sum(self):
        self.assertEqual(price(EVERY_WORD), 8 * 4 + 16 * 2 + 64 + 16 + 8 + 8 + 16)
        self.assertEqual(price((AHEAD, (0,))), 0)
        self.assertEqual(price(((("num", 8, 1),), (0,))), 0)
        for seed in range(20):
            rows, outs = some_program(seed, 30, 64)
            parts = [price((rows[:k], (0,))) for k in range(1, len(rows) + 1)]
            self.assertEqual(parts, sorted(parts))
            self.assertEqual(price((rows, outs)), parts[-1])
            self.assertEqual(price((rows, (0,))), parts[-1])


if __name__ == "__main__":
    unittest.main()
