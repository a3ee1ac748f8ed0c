"""Point 9: the number of a row, of the widths and the numbers of its operands."""

import unittest

from fewbits.works import work
from helper import BITWISE, COMPARES, SHIFTS, SUMS, TWO_OF_ONE_WIDTH, WORDS, counted, reckoned

TOP = 2 ** 64 - 1
WIDTHS = (1, 2, 3, 5, 8, 31, 32, 33, 63, 64)


def numbers_of(width):
    """Noughts, all ones, single bits, runs of ones, and any."""
    top = 2 ** width - 1
    found = [0, top]
    for k in sorted(set((0, 1, width // 2, width - 2, width - 1))):
        if 0 <= k < width:
            found.extend([2 ** k, top - 2 ** k, 2 ** k - 1, top - (2 ** k - 1)])
    found.extend([each % (top + 1) for each in (0xDEADBEEFCAFEF00D, 0x123456789ABCDEF, 0xAAAAAAAAAAAAAAAA, 0x6C07965)])
    return sorted(set(found))


class Works(unittest.TestCase):
    def told(self, row, widths, numbers, awaited):
        found = work(row, widths, numbers)
        self.assertIs(type(found), int)
        self.assertEqual(found, awaited, (row, widths, numbers))
        self.assertEqual(work(row, widths, numbers), found)
        self.assertTrue(0 <= found < 2 ** row[1])

    def as_reckoned(self, row, widths, numbers):
        self.told(row, widths, numbers, reckoned(row, widths, numbers))


class WrittenOut(Works):
    def test_each_word(self):
        cases = (
            (("num", 8, 17), (), (), 17), (("num", 64, TOP), (), (), TOP), (("num", 1, 0), (), (), 0),
            (("not", 8, 3), (8,), (0b00001111,), 0b11110000), (("not", 1, 0), (1,), (1,), 0),
            (("and", 4, 0, 1), (4, 4), (0b1100, 0b1010), 0b1000), (("or", 4, 0, 1), (4, 4), (0b1100, 0b1010), 0b1110),
            (("xor", 4, 0, 1), (4, 4), (0b1100, 0b1010), 0b0110),
            (("add", 8, 0, 1), (8, 8), (200, 100), 44), (("add", 8, 0, 1), (8, 8), (200, 55), 255),
            (("add", 8, 0, 1), (8, 8), (200, 56), 0), (("sub", 8, 0, 1), (8, 8), (3, 5), 254),
            (("sub", 8, 0, 1), (8, 8), (5, 5), 0), (("sub", 8, 0, 1), (8, 8), (0, 255), 1),
            (("mul", 8, 0, 1), (8, 8), (20, 20), 144), (("mul", 8, 0, 1), (8, 8), (17, 15), 255),
            (("mul", 8, 0, 1), (8, 8), (16, 16), 0), (("mul", 64, 0, 1), (64, 64), (TOP, TOP), 1),
            (("left", 8, 0, 3), (8,), (0b10110101,), 0b10101000), (("right", 8, 0, 3), (8,), (0b10110101,), 0b00010110),
            (("slide", 8, 0, 3), (8,), (0b10110101,), 0b11110110), (("slide", 8, 0, 3), (8,), (0b00110101,), 0b00000110),
            (("cut", 3, 0), (8,), (0b10110101,), 0b101), (("wide", 16, 0), (8,), (0b10110101,), 0b10110101),
            (("sign", 16, 0), (8,), (0b10110101,), 0b1111111110110101), (("sign", 16, 0), (8,), (0b110101,), 0b110101),
            (("same", 1, 0, 1), (8, 8), (7, 7), 1), (("same", 1, 0, 1), (8, 8), (7, 8), 0),
            (("less", 1, 0, 1), (8, 8), (7, 8), 1), (("less", 1, 0, 1), (8, 8), (8, 7), 0),
            (("less", 1, 0, 1), (8, 8), (7, 7), 0), (("less", 1, 0, 1), (8, 8), (128, 127), 0),
            (("under", 1, 0, 1), (8, 8), (128, 127), 1), (("under", 1, 0, 1), (8, 8), (127, 128), 0),
            (("under", 1, 0, 1), (8, 8), (128, 255), 1), (("under", 1, 0, 1), (8, 8), (255, 0), 1),
            (("under", 1, 0, 1), (1, 1), (1, 0), 1), (("under", 1, 0, 1), (1, 1), (0, 1), 0),
            (("pick", 8, 0, 1, 2), (1, 8, 8), (1, 5, 9), 5), (("pick", 8, 0, 1, 2), (1, 8, 8), (0, 5, 9), 9),
        )
        self.assertEqual(sorted(set(case[0][0] for case in cases)), sorted(WORDS[1:]))
        for row, widths, numbers, awaited in cases:
            self.told(row, widths, numbers, awaited)


class TwoOfOneWidth(Works):
    def test_many_numbers(self):
        for width in WIDTHS:
            for one in numbers_of(width):
                for other in numbers_of(width):
                    for word in TWO_OF_ONE_WIDTH:
                        self.as_reckoned((word, width, 4, 9), (width, width), (one, other))
                    for word in COMPARES:
                        self.as_reckoned((word, 1, 4, 9), (width, width), (one, other))

    def test_all_numbers_of_few_bits(self):
        for width in (1, 2, 3, 4):
            for one in range(2 ** width):
                for other in range(2 ** width):
                    for word in BITWISE + SUMS:
                        self.as_reckoned((word, width, 0, 1), (width, width), (one, other))
                    for word in COMPARES:
                        self.as_reckoned((word, 1, 0, 1), (width, width), (one, other))

    def test_under_by_the_top_bits(self):
        for width in WIDTHS:
            half = 2 ** (width - 1)
            for one in (0, half - 1, half, 2 * half - 1):
                for other in (0, half - 1, half, 2 * half - 1):
                    awaited = 1 if counted(one, width) < counted(other, width) else 0
                    self.told(("under", 1, 0, 1), (width, width), (one, other), awaited)


class Shifts(Works):
    def test_many_shifts(self):
        for width in WIDTHS:
            for shift in sorted(set((0, 1, width // 2, width - 1, min(width, 63), min(width + 1, 63), 62, 63))):
                for number in numbers_of(width):
                    for word in SHIFTS:
                        self.as_reckoned((word, width, 2, shift), (width,), (number,))

    def test_by_the_width_or_more(self):
        for width in range(1, 64):
            top = 2 ** width - 1
            for shift in (width, 63):
                for number in (0, 1, top, 2 ** (width - 1), top // 2):
                    self.told(("left", width, 0, shift), (width,), (number,), 0)
                    self.told(("right", width, 0, shift), (width,), (number,), 0)
                    awaited = top if number >= 2 ** (width - 1) else 0
                    self.told(("slide", width, 0, shift), (width,), (number,), awaited)

    def test_by_0(self):
        for width in WIDTHS:
            for number in numbers_of(width):
                for word in SHIFTS:
                    self.told((word, width, 0, 0), (width,), (number,), number)


class OfOne(Works):
    def test_not_and_num(self):
        for width in WIDTHS:
            for number in numbers_of(width):
                self.told(("not", width, 0), (width,), (number,), 2 ** width - 1 - number)
                self.told(("num", width, number), (), (), number)

    def test_cut_wide_sign(self):
        for width in WIDTHS:
            for number in numbers_of(width):
                for wider in sorted(set((width, width + 1, 63, 64))):
                    if width <= wider <= 64:
                        self.told(("wide", wider, 0), (width,), (number,), number)
                        self.as_reckoned(("sign", wider, 0), (width,), (number,))
                for less in sorted(set((1, (width + 1) // 2, max(1, width - 1), width))):
                    self.told(("cut", less, 0), (width,), (number,), number % 2 ** less)


class Pick(Works):
    def test_both_sides(self):
        for width in WIDTHS:
            for one in numbers_of(width):
                for other in (0, 2 ** width - 1, one):
                    self.told(("pick", width, 0, 1, 2), (1, width, width), (1, one, other), one)
                    self.told(("pick", width, 0, 1, 2), (1, width, width), (0, one, other), other)


if __name__ == "__main__":
    unittest.main()
