"""Point 6: the operands of a row, and the widths of a program's rows."""

import unittest

from fewbits.rows import operands, width_of

# Each operand another number, and the shifts and n numbers of no operand.
CASES = (
    (("in", 8), ()),
    (("num", 8, 17), ()),
    (("not", 8, 3), (3,)),
    (("and", 8, 5, 2), (5, 2)),
    (("or", 8, 5, 2), (5, 2)),
    (("xor", 8, 5, 2), (5, 2)),
    (("add", 8, 5, 2), (5, 2)),
    (("sub", 8, 5, 2), (5, 2)),
    (("mul", 8, 5, 2), (5, 2)),
    (("left", 8, 3, 6), (3,)),
    (("right", 8, 3, 6), (3,)),
    (("slide", 8, 3, 6), (3,)),
    (("cut", 8, 3), (3,)),
    (("wide", 8, 3), (3,)),
    (("sign", 8, 3), (3,)),
    (("same", 1, 5, 2), (5, 2)),
    (("less", 1, 5, 2), (5, 2)),
    (("under", 1, 5, 2), (5, 2)),
    (("pick", 8, 7, 4, 6), (7, 4, 6)),
)

EVERY_WORD = (
    (
        ("in", 8), ("num", 8, 255), ("not", 8, 0), ("and", 8, 0, 1), ("or", 8, 0, 1), ("xor", 8, 2, 1),
        ("add", 8, 3, 4), ("sub", 8, 5, 6), ("mul", 8, 7, 7), ("left", 8, 8, 63), ("right", 8, 8, 0),
        ("slide", 8, 8, 3), ("cut", 5, 8), ("wide", 64, 8), ("sign", 13, 12), ("same", 1, 0, 1),
        ("less", 1, 13, 13), ("under", 1, 12, 12), ("pick", 13, 15, 14, 14), ("in", 1), ("num", 64, 2 ** 64 - 1),
    ),
    (18, 20, 0),
)
WIDTHS = (8, 8, 8, 8, 8, 8, 8, 8, 8, 8, 8, 8, 5, 64, 13, 1, 1, 1, 13, 1, 64)


class Operands(unittest.TestCase):
    def same_tuple(self, told, awaited):
        self.assertIs(type(told), tuple)
        self.assertEqual([type(part) for part in told], [int] * len(awaited))
        self.assertEqual(told, awaited)

    def test_each_word(self):
        for row, awaited in CASES:
            with self.subTest(row=row):
                self.same_tuple(operands(row), awaited)

    def test_row_0_and_one_row_twice(self):
        for row, awaited in CASES:
            numbers = len(row) - 2
            for number in (0, 39):
                with self.subTest(row=row, number=number):
                    self.same_tuple(operands(row[:2] + (number,) * numbers), (number,) * len(awaited))

    def test_at_any_width(self):
        for row, awaited in CASES:
            for width in (1, 2, 63, 64):
                with self.subTest(row=row, width=width):
                    self.same_tuple(operands((row[0], width) + row[2:]), awaited)

    def test_of_a_whole_program(self):
        told = tuple([operands(row) for row in EVERY_WORD[0]])
        awaited = (
            (), (), (0,), (0, 1), (0, 1), (2, 1), (3, 4), (5, 6), (7, 7), (8,), (8,), (8,), (8,), (8,), (12,), (0, 1),
            (13, 13), (12, 12), (15, 14, 14), (), (),
        )
        self.assertEqual(told, awaited)

    def test_no_shift_and_no_number(self):
        for word in ("left", "right", "slide"):
            for shift in (0, 1, 63):
                self.same_tuple(operands((word, 64, 9, shift)), (9,))
        for number in (0, 1, 2 ** 64 - 1):
            self.same_tuple(operands(("num", 64, number)), ())


class WidthOf(unittest.TestCase):
    def test_each_row(self):
        self.assertEqual(len(WIDTHS), len(EVERY_WORD[0]))
        for k, width in enumerate(WIDTHS):
            with self.subTest(k=k):
                told = width_of(EVERY_WORD, k)
                self.assertIs(type(told), int)
                self.assertEqual(told, width)

    def test_every_width(self):
        program = (tuple([("in", width) for width in range(1, 65)]), (0,))
        self.assertEqual([width_of(program, k) for k in range(64)], list(range(1, 65)))

    def test_a_compare_has_its_own_width(self):
        program = ((("in", 64), ("same", 1, 0, 0), ("less", 1, 0, 0), ("under", 1, 0, 0)), (3, 2, 1))
        self.assertEqual([width_of(program, k) for k in range(4)], [64, 1, 1, 1])

    def test_whatever_the_outs_are(self):
        rows = (("in", 3), ("wide", 9, 0))
        for outs in ((0,), (1,), (1, 0), (0,) * 8):
            with self.subTest(outs=outs):
                self.assertEqual([width_of((rows, outs), k) for k in range(2)], [3, 9])


class AskedAgain(unittest.TestCase):
    def test_the_same_is_told(self):
        rows = EVERY_WORD[0]
        numbers = range(len(rows))
        first = [(operands(rows[k]), width_of(EVERY_WORD, k)) for k in numbers]
        again = [(operands(rows[k]), width_of(EVERY_WORD, k)) for k in reversed(numbers)]
        self.assertEqual(first, again[::-1])


if __name__ == "__main__":
    unittest.main()
