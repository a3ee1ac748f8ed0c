"""Point 7: which programs are let by, and by which row, of which class, the others are refused."""

import unittest

from fewbits.errors import BitsError, NoFit, NoLine, NoNumber, NoRow, NoWidth, TooMany
from fewbits.looking import look
from helper import COMPARES, EVERY_WORD, SHIFTS, TWO_OF_ONE_WIDTH, WORDS, some_program

CLASSES = (NoLine, NoWidth, NoRow, NoFit, NoNumber, TooMany)

# Rows ahead of the one looked at: widths 8, 8, 1, 5, 64.
AHEAD = (("in", 8), ("in", 8), ("in", 1), ("in", 5), ("in", 64))
HERE = len(AHEAD)

# A good row of each word, behind these.
GOOD = (
    (("in", 8), ("num", 8, 255), ("not", 8, 0))
    + tuple([(word, 8, 0, 1) for word in TWO_OF_ONE_WIDTH])
    + tuple([(word, 8, 0, 63) for word in SHIFTS])
    + (("cut", 5, 0), ("cut", 8, 0), ("wide", 64, 0), ("wide", 8, 0), ("sign", 64, 0), ("sign", 8, 0))
    + tuple([(word, 1, 0, 1) for word in COMPARES])
    + (("pick", 8, 2, 0, 1),)
)


def behind(row):
    """A program with the row at HERE and a good one behind."""
    return (AHEAD + (row, ("in", 3)), (0,))


def operand_count(row):
    return len(row) - 2 - (1 if row[0] in SHIFTS + ("num",) else 0)


class Looked(unittest.TestCase):
    def let_by(self, program):
        self.assertIs(look(program), True)

    def refused(self, program, kind, row):
        with self.assertRaises(BitsError) as taken:
            look(program)
        error = taken.exception
        self.assertIs(type(error), kind)
        for other in CLASSES:
            self.assertEqual(isinstance(error, other), other is kind)
        self.assertIs(type(error.row), int)
        self.assertEqual(error.row, row)


class LetBy(Looked):
    def test_a_program_of_every_word(self):
        self.assertEqual(sorted(set(row[0] for row in EVERY_WORD[0])), sorted(WORDS))
        self.let_by(EVERY_WORD)

    def test_good_rows(self):
        self.assertEqual(sorted(set(row[0] for row in GOOD)), sorted(WORDS))
        for row in GOOD:
            with self.subTest(row=row):
                self.let_by(behind(row))

    def test_the_least_and_the_greatest_width(self):
        for width in (1, 64):
            rows = (("in", width), ("num", width, 2 ** width - 1), ("in", 1))
            rows += tuple([(word, width, 0, 1) for word in TWO_OF_ONE_WIDTH])
            rows += tuple([(word, width, 0, shift) for word in SHIFTS for shift in (0, 63)])
            rows += (("cut", width, 0), ("wide", width, 0), ("sign", width, 0), ("pick", width, 2, 0, 1))
            rows += tuple([(word, 1, 0, 1) for word in COMPARES])
            self.let_by((rows, (0, len(rows) - 1)))
        self.let_by(((("in", 64), ("cut", 1, 0), ("wide", 64, 1), ("sign", 64, 1)), (3,)))

    def test_one_row_and_one_row_twice(self):
        self.let_by(((("in", 1),), (0,)))
        self.let_by(((("in", 1), ("pick", 1, 0, 0, 0)), (1,) * 8))

    def test_many_rows(self):
        rows = (("in", 7),) + tuple([("not", 7, k) for k in range(3000)])
        self.let_by((rows, (3000, 0)))

    def test_any_good_program(self):
        for seed in range(60):
            with self.subTest(seed=seed):
                self.let_by(some_program(seed, 40, 64))


class Widths(Looked):
    def test_0_and_65_of_every_word(self):
        for row in GOOD:
            for width in (0, 65, 66, 128, 2 ** 64, 2 ** 70000):
                with self.subTest(row=row, width=width.bit_length()):
                    self.refused(behind((row[0], width) + row[2:]), NoWidth, HERE)


class Operands(Looked):
    def test_each_operand_of_every_word(self):
        for row in GOOD:
            for place in range(operand_count(row)):
                for number in (HERE, HERE + 1, HERE + 2, 1000, 2 ** 70000):
                    with self.subTest(row=row, place=place, number=number.bit_length()):
                        bad = row[:2 + place] + (number,) + row[3 + place:]
                        self.refused(behind(bad), NoRow, HERE)

    def test_at_row_0(self):
        for row in GOOD:
            if operand_count(row) > 0:
                bad = row[:2] + (0,) * (len(row) - 2)
                with self.subTest(row=row):
                    self.refused(((bad, ("in", 8)), (1,)), NoRow, 0)


class Fits(Looked):
    def test_two_of_one_width(self):
        for word in TWO_OF_ONE_WIDTH:
            for one, other in ((0, 3), (3, 0), (4, 0), (0, 4), (3, 3), (4, 4), (2, 2)):
                with self.subTest(word=word, one=one, other=other):
                    self.refused(behind((word, 8, one, other)), NoFit, HERE)

    def test_one_of_the_width(self):
        for operand in (2, 3, 4):
            self.refused(behind(("not", 8, operand)), NoFit, HERE)
            for word in SHIFTS:
                with self.subTest(word=word, operand=operand):
                    self.refused(behind((word, 8, operand, 1)), NoFit, HERE)

    def test_compares(self):
        for word in COMPARES:
            for width in (2, 8, 64):
                with self.subTest(word=word, width=width):
                    self.refused(behind((word, width, 0, 1)), NoFit, HERE)
            for one, other in ((0, 3), (3, 0), (0, 2), (2, 0), (0, 4), (4, 0)):
                with self.subTest(word=word, one=one, other=other):
                    self.refused(behind((word, 1, one, other)), NoFit, HERE)
            self.let_by(behind((word, 1, 2, 2)))
            self.let_by(behind((word, 1, 4, 4)))

    def test_pick(self):
        for choice in (0, 3, 4):
            self.refused(behind(("pick", 8, choice, 0, 1)), NoFit, HERE)
        for one, other in ((0, 3), (3, 1), (3, 3), (4, 0), (0, 4), (2, 2)):
            self.refused(behind(("pick", 8, 2, one, other)), NoFit, HERE)
        self.let_by(behind(("pick", 1, 2, 2, 2)))

    def test_the_wrong_way_round(self):
        self.refused(behind(("cut", 9, 0)), NoFit, HERE)
        self.refused(behind(("cut", 64, 0)), NoFit, HERE)
        self.refused(behind(("cut", 2, 2)), NoFit, HERE)
        for word in ("wide", "sign"):
            for width, operand in ((7, 0), (1, 0), (63, 4), (4, 3)):
                with self.subTest(word=word, width=width):
                    self.refused(behind((word, width, operand)), NoFit, HERE)


class Numbers(Looked):
    def test_num(self):
        for width in range(1, 65):
            with self.subTest(width=width):
                self.let_by(behind(("num", width, 2 ** width - 1)))
                self.let_by(behind(("num", width, 0)))
                self.refused(behind(("num", width, 2 ** width)), NoNumber, HERE)
                self.refused(behind(("num", width, 2 ** 70000)), NoNumber, HERE)

    def test_shifts(self):
        for word in SHIFTS:
            for shift in (0, 7, 8, 9, 63):
                self.let_by(behind((word, 8, 0, shift)))
            for shift in (64, 65, 2 ** 70000):
                with self.subTest(word=word, shift=shift.bit_length()):
                    self.refused(behind((word, 8, 0, shift)), NoNumber, HERE)
                    self.refused(behind((word, 64, 4, shift)), NoNumber, HERE)


class Order(Looked):
    def test_several_in_one_row(self):
        cases = (
            (("left", 0, HERE, 64), NoWidth), (("left", 65, 0, 64), NoWidth), (("num", 65, 2 ** 70), NoWidth),
            (("num", 0, 0), NoWidth), (("num", 0, 1), NoWidth), (("add", 0, HERE, 3), NoWidth),
            (("same", 0, 0, 3), NoWidth), (("under", 65, HERE, 3), NoWidth), (("pick", 65, 0, HERE, 3), NoWidth),
            (("left", 8, HERE, 64), NoRow), (("slide", 7, HERE, 64), NoRow), (("add", 8, 3, HERE), NoRow),
            (("add", 8, HERE, 3), NoRow), (("same", 2, 0, HERE), NoRow), (("less", 8, 3, HERE), NoRow),
            (("pick", 8, 0, 3, HERE), NoRow), (("pick", 8, HERE, 3, 3), NoRow), (("pick", 8, 3, HERE, 3), NoRow),
            (("left", 8, 3, 64), NoFit), (("right", 5, 0, 99), NoFit), (("slide", 64, 0, 64), NoFit),
        )
        for row, kind in cases:
            with self.subTest(row=row):
                self.refused(behind(row), kind, HERE)

    def test_the_first_row_counts(self):
        bad = {NoWidth: ("in", 0), NoRow: ("not", 8, 99), NoFit: ("not", 7, 0), NoNumber: ("num", 1, 2)}
        for first, row in bad.items():
            for second, other in bad.items():
                rows = AHEAD + (row, ("in", 8), other)
                with self.subTest(first=first.__name__, second=second.__name__):
                    self.refused((rows, (0,)), first, HERE)
                    self.refused((rows, (99,)), first, HERE)

    def test_a_row_is_looked_at_ahead_of_those_behind(self):
        self.refused(((("in", 65), ("not", 65, 0)), (0,)), NoWidth, 0)
        self.refused(((("not", 8, 1), ("in", 8)), (0,)), NoRow, 0)


class Outs(Looked):
    def test_the_number_of_no_row(self):
        rows = EVERY_WORD[0]
        count = len(rows)
        for out in (count, count + 1, 2 ** 64, 2 ** 70000):
            for outs in ((out,), (0, out), (out, 0), (0,) * 7 + (out,), (out,) * 8):
                with self.subTest(out=out.bit_length(), outs=len(outs)):
                    self.refused((rows, outs), NoRow, count)
        self.let_by((rows, (count - 1,)))

    def test_no_rows(self):
        for outs in ((0,), (1,), (0, 0), (99,) * 8):
            self.refused(((), outs), NoRow, 0)


class AskedAgain(Looked):
    def test_a_good_one_behind_a_bad_one(self):
        for row, kind in ((("in", 0), NoWidth), (("not", 8, 9), NoRow), (("not", 7, 0), NoFit), (("num", 1, 2), NoNumber)):
            for _ in range(2):
                self.let_by(EVERY_WORD)
                self.refused(behind(row), kind, HERE)
            self.let_by(EVERY_WORD)


if __name__ == "__main__":
    unittest.main()
