"""Points 4 and 5: what is told of single numbers, and the shared top of two.

What is awaited is reckoned from a number's written bits, not by its masks.
"""

import unittest

from fewbits.bits import below, full, low_run, reach, shared_top, stretched, top_run

GREATEST = 2 ** 64 - 1
FAR = (100, 1000, 4096, 9973)
SOME = (
    0, 1, 2, 3, 4, 5, 6, 7, 8, 10, 11, 23, 0b1110, 0b10111, 0b1101111, 0xF0F0, 0x7FFF, 0x8000, 0x8001,
    2 ** 31, 2 ** 32 - 1, 2 ** 32, 2 ** 53 + 1, 2 ** 62, 2 ** 63 - 1, 2 ** 63, 2 ** 63 + 1, 0xAAAAAAAAAAAAAAAA,
    0x5555555555555555, 0xDEADBEEFDEADBEEF, GREATEST - 1, GREATEST,
)


def far_numbers():
    made = []
    for bits in FAR:
        made.extend((2 ** bits - 1, 2 ** bits, 2 ** bits + 1, 2 ** bits - 2, 2 ** bits + 7, (2 ** bits // 3) * 2 + 1))
        made.append(2 ** bits - 1 - 2 ** (bits // 2))
    return made


def written(number):
    """The bits up to the highest 1, as a text; the empty one of 0."""
    return bin(number)[2:].lstrip("0")


def written_in(number, width):
    return written(number).rjust(width, "0")


def leading_ones(text):
    return len(text) - len(text.lstrip("1"))


def same_bits(numbers, width):
    """Of each bit, from the highest one down to where they first part: 0 or 1."""
    bits = []
    for column in zip(*[written_in(number, width) for number in numbers]):
        if len(set(column)) > 1:
            break
        bits.append(column[0])
    return bits


def top_masks(bits, width):
    noughts = 0
    ones = 0
    for k, bit in enumerate(bits):
        place = 2 ** (width - 1 - k)
        if bit == "1":
            ones += place
        else:
            noughts += place
    return (noughts, ones)


class Told(unittest.TestCase):
    def same_number(self, told, awaited):
        self.assertIs(type(told), int)
        self.assertEqual(told, awaited)

    def same_pair(self, told, awaited):
        self.assertIs(type(told), tuple)
        self.assertEqual([type(part) for part in told], [int, int])
        self.assertEqual(told, awaited)


class Full(Told):
    def test_widths(self):
        for width in range(1, 65):
            with self.subTest(width=width):
                self.same_number(full(width), int("1" * width, 2))

    def test_written_out(self):
        self.assertEqual(full(1), 1)
        self.assertEqual(full(2), 3)
        self.assertEqual(full(8), 255)
        self.assertEqual(full(64), 18446744073709551615)


class Reach(Told):
    def test_written_out(self):
        for number, told in ((0, 0), (1, 1), (2, 2), (3, 2), (4, 3), (7, 3), (8, 4), (0b10010, 5), (GREATEST, 64)):
            with self.subTest(number=number):
                self.same_number(reach(number), told)

    def test_single_bits(self):
        for k in range(70):
            with self.subTest(k=k):
                self.same_number(reach(2 ** k), k + 1)

    def test_some(self):
        for number in list(range(600)) + list(SOME):
            with self.subTest(number=number):
                self.same_number(reach(number), len(written(number)))

    def test_far_beyond_64_bits(self):
        for bits in FAR:
            with self.subTest(bits=bits):
                self.same_number(reach(2 ** bits), bits + 1)
                self.same_number(reach(2 ** bits - 1), bits)
                self.same_number(reach(2 ** bits + 1), bits + 1)
        for number in far_numbers():
            self.same_number(reach(number), len(written(number)))


class Below(Told):
    def test_written_out(self):
        for number, told in ((0, 0), (1, 1), (2, 3), (3, 3), (4, 7), (5, 7), (0b10010, 31), (2 ** 63, GREATEST)):
            with self.subTest(number=number):
                self.same_number(below(number), told)

    def test_single_bits(self):
        for k in range(70):
            with self.subTest(k=k):
                self.same_number(below(2 ** k), 2 * 2 ** k - 1)

    def test_runs_of_ones_are_themselves(self):
        for k in range(70):
            with self.subTest(k=k):
                self.same_number(below(2 ** k - 1), 2 ** k - 1)

    def test_some(self):
        for number in list(range(600)) + list(SOME) + far_numbers():
            self.same_number(below(number), int("0" + "1" * len(written(number)), 2))


class LowRun(Told):
    def test_written_out(self):
        cases = ((0, 0), (1, 1), (2, 0), (3, 2), (4, 0), (5, 1), (0b1011, 2), (0b110111, 3), (0b110110, 0))
        for number, told in cases:
            with self.subTest(number=number):
                self.same_number(low_run(number), told)

    def test_bit_0_a_nought(self):
        for number in range(0, 600, 2):
            self.same_number(low_run(number), 0)

    def test_all_ones(self):
        for k in range(70):
            with self.subTest(k=k):
                self.same_number(low_run(2 ** k - 1), k)

    def test_a_run_with_a_nought_behind_it(self):
        for k in range(64):
            for above in (2, 4, 6, 0b101010, 2 ** 64):
                with self.subTest(k=k, above=above):
                    self.same_number(low_run(2 ** k - 1 + above * 2 ** k), k)

    def test_some(self):
        for number in list(range(600)) + list(SOME) + far_numbers():
            self.same_number(low_run(number), leading_ones(written(number)[::-1]))

    def test_far_beyond_64_bits(self):
        for bits in FAR:
            with self.subTest(bits=bits):
                self.same_number(low_run(2 ** bits - 1), bits)
                self.same_number(low_run(2 ** bits), 0)
                self.same_number(low_run(2 ** (2 * bits) + 2 ** bits - 1), bits)


class TopRun(Told):
    def test_written_out(self):
        cases = (
            (0, 1, 0), (1, 1, 1), (0b10, 2, 1), (0b01, 2, 0), (0b1101, 4, 2), (0b0111, 4, 0), (0b1111, 4, 4),
            (0b1111, 5, 0), (2 ** 63, 64, 1), (2 ** 63 - 1, 64, 0), (GREATEST, 64, 64), (GREATEST - 1, 64, 63),
        )
        for number, width, told in cases:
            with self.subTest(number=number, width=width):
                self.same_number(top_run(number, width), told)

    def test_0_and_all_ones(self):
        for width in range(1, 65):
            with self.subTest(width=width):
                self.same_number(top_run(0, width), 0)
                self.same_number(top_run(2 ** width - 1, width), width)

    def test_a_run_at_the_top(self):
        for width in range(2, 65):
            for run in range(width):
                number = 2 ** width - 2 ** (width - run)
                with self.subTest(width=width, run=run):
                    self.same_number(top_run(number, width), run)
                    self.same_number(top_run(number + 2 ** (width - run - 1) - 1, width), run)

    def test_every_number_of_few_bits(self):
        for width in range(1, 9):
            for number in range(2 ** width):
                with self.subTest(width=width, number=number):
                    self.same_number(top_run(number, width), leading_ones(written_in(number, width)))

    def test_some(self):
        for number in SOME:
            for width in range(max(1, number.bit_length()), 65):
                with self.subTest(width=width, number=number):
                    self.same_number(top_run(number, width), leading_ones(written_in(number, width)))


class Stretched(Told):
    def test_written_out(self):
        cases = (
            (0, 1, 1, 0), (1, 1, 1, 1), (1, 1, 2, 3), (1, 1, 64, GREATEST), (0, 1, 64, 0), (0b10, 2, 4, 0b1110),
            (0b01, 2, 4, 0b0001), (0x80, 8, 16, 0xFF80), (0x7F, 8, 16, 0x7F), (2 ** 63, 64, 64, 2 ** 63),
            (2 ** 62, 63, 64, 2 ** 63 + 2 ** 62),
        )
        for number, width, wider, told in cases:
            with self.subTest(number=number, width=width, wider=wider):
                self.same_number(stretched(number, width, wider), told)

    def test_0_stays_0(self):
        for width in range(1, 65):
            for wider in range(width, 65):
                self.same_number(stretched(0, width, wider), 0)

    def test_every_number_of_few_bits(self):
        for width in range(1, 7):
            for wider in (width, width + 1, width + 3, 63, 64):
                for number in range(2 ** width):
                    with self.subTest(number=number, width=width, wider=wider):
                        bits = written_in(number, width)
                        awaited = int(bits.rjust(wider, bits[0]), 2)
                        self.same_number(stretched(number, width, wider), awaited)

    def test_some(self):
        for number in SOME:
            for width in range(max(1, number.bit_length()), 65):
                for wider in range(width, 65):
                    bits = written_in(number, width)
                    self.same_number(stretched(number, width, wider), int(bits.rjust(wider, bits[0]), 2))


class SharedTop(Told):
    def test_written_out(self):
        cases = (
            (0, 0, 1, (1, 0)), (1, 1, 1, (0, 1)), (0, 1, 1, (0, 0)),
            (0b1010, 0b1010, 4, (0b0101, 0b1010)), (0b0101, 0b1010, 4, (0, 0)), (0b1010, 0b1011, 4, (0b0100, 0b1010)),
            (0b1001, 0b1011, 4, (0b0100, 0b1000)), (0b0001, 0b0011, 4, (0b1100, 0)),
            (0, GREATEST, 64, (0, 0)), (2 ** 63 - 1, 2 ** 63, 64, (0, 0)), (0, 0, 64, (GREATEST, 0)),
            (GREATEST, GREATEST, 64, (0, GREATEST)), (GREATEST - 1, GREATEST, 64, (0, GREATEST - 1)),
            (0, 1, 64, (GREATEST - 1, 0)),
        )
        for least, greatest, width, told in cases:
            with self.subTest(least=least, greatest=greatest, width=width):
                self.same_pair(shared_top(least, greatest, width), told)

    def test_one_number_twice(self):
        for number in SOME:
            for width in range(max(1, number.bit_length()), 65):
                with self.subTest(number=number, width=width):
                    self.same_pair(shared_top(number, number, width), (2 ** width - 1 - number, number))

    def test_two_that_differ_at_the_highest_bit(self):
        for width in range(1, 65):
            half = 2 ** (width - 1)
            for least, greatest in ((0, half), (half - 1, half), (0, 2 * half - 1), (half // 2, half + half // 2)):
                with self.subTest(width=width, least=least, greatest=greatest):
                    self.same_pair(shared_top(least, greatest, width), (0, 0))

    def test_two_that_differ_at_the_lowest_bit(self):
        for width in range(1, 65):
            for least in (0, 2 ** width - 2, (2 ** width // 3) * 2 // 4 * 2):
                with self.subTest(width=width, least=least):
                    self.same_pair(shared_top(least, least + 1, width), (2 ** width - 2 - least, least))

    def test_each_number_between_has_these_bits(self):
        for width in range(1, 6):
            for least in range(2 ** width):
                for greatest in range(least, 2 ** width):
                    with self.subTest(width=width, least=least, greatest=greatest):
                        awaited = top_masks(same_bits((least, greatest), width), width)
                        noughts, ones = shared_top(least, greatest, width)
                        self.same_pair((noughts, ones), awaited)
                        for number in range(least, greatest + 1):
                            self.assertEqual(number & noughts, 0)
                            self.assertEqual(number & ones, ones)

    def test_some(self):
        ordered = sorted(SOME)
        for k, least in enumerate(ordered):
            for greatest in ordered[k:]:
                for width in (max(1, greatest.bit_length()), 64):
                    with self.subTest(width=width, least=least, greatest=greatest):
                        awaited = top_masks(same_bits((least, greatest), width), width)
                        self.same_pair(shared_top(least, greatest, width), awaited)


class AskedAgain(Told):
    def test_the_same_is_told(self):
        asked = []
        for number in SOME:
            width = max(1, number.bit_length())
            asked.append((full, (width,)))
            asked.extend([(ask, (number,)) for ask in (reach, below, low_run)])
            asked.append((top_run, (number, width)))
            asked.append((stretched, (number, width, 64)))
            asked.append((shared_top, (number // 2, number, width)))
        first = [ask(*handed) for ask, handed in asked]
        again = [ask(*handed) for ask, handed in reversed(asked)]
        self.assertEqual(first, again[::-1])


if __name__ == "__main__":
    unittest.main()
