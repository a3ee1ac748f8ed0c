"""Point 18, and 3 (d) of the traded program: each exchange, the words for it, and that the same is told."""

import unittest

from fewbits.asking import asked
from fewbits.looking import look
from fewbits.prices import price
from fewbits.rules import facts_of
from fewbits.runs import told
from fewbits.trading import traded
from helper import (
    COMPARES, EVERY_WORD, SHIFTS, TWO_OF_ONE_WIDTH, all_kinds, reckoned_outs, some_inputs, some_program,
    trade_program,
)

# Ahead of each row tried below: inputs 0, 1 of width 8, input 2 of width 1.
INS = (("in", 8), ("in", 8), ("in", 1))


class Trades(unittest.TestCase):
    def same_told(self, program, made):
        self.assertIs(look(made), True)
        self.assertLessEqual(price(made), price(program))
        for inputs in some_inputs(program, 18, 40):
            self.assertEqual(told(made, inputs), reckoned_outs(program, inputs))

    def becomes(self, rows, outs, words, made_rows, made_outs):
        program = (rows, outs)
        self.assertIs(look(program), True)
        found = traded(program)
        self.assertIs(type(found), tuple)
        self.assertTrue(all_kinds(found))
        self.assertEqual(found[1], tuple(words.split()))
        self.assertEqual(found[0], (made_rows, made_outs))
        self.assertEqual(traded(program), found)
        self.same_told(program, found[0])

    def last_becomes(self, rows, word, made, out=None):
        """The last row, all asked, behind the inputs: its word, and the rows made of it (or the out it is passed to)."""
        program = (INS + rows, (len(INS) + len(rows) - 1,))
        self.assertIs(look(program), True)
        (made_rows, made_outs), words = traded(program)
        self.assertEqual(words[-1], word, rows)
        if made is None:
            self.assertEqual(made_outs, (out,), rows)
        else:
            self.assertEqual(made_rows[-1], made, rows)
            self.assertEqual(made_outs, (len(made_rows) - 1,))
        self.same_told(program, (made_rows, made_outs))


class Gone(Trades):
    def test_left_out(self):
        self.becomes(
            INS + (("add", 8, 0, 1), ("num", 8, 7), ("not", 8, 1)), (5,), "kept kept kept gone gone kept",
            INS + (("not", 8, 1),), (3,),
        )

    def test_ins_stay(self):
        self.becomes((("in", 8), ("in", 3), ("in", 64)), (1,), "kept kept kept", (("in", 8), ("in", 3), ("in", 64)), (1,))
        self.becomes((("in", 8), ("num", 8, 3), ("in", 2)), (1,), "kept kept kept", (("in", 8), ("num", 8, 3), ("in", 2)), (1,))

    def test_a_chain(self):
        self.becomes(
            (("in", 8), ("not", 8, 0), ("not", 8, 1), ("not", 8, 2)), (0,), "kept gone gone gone", (("in", 8),), (0,),
        )


class Known(Trades):
    def test_all_asked_bits_known(self):
        rows = (("in", 8), ("num", 8, 0), ("and", 8, 0, 1), ("not", 8, 2))
        self.becomes(rows, (3,), "kept kept known known", (("in", 8), ("num", 8, 0), ("num", 8, 0), ("num", 8, 255)), (3,))

    def test_the_number_is_all_its_ones(self):
        # One bit is asked, of eight ones that are known.
        rows = (("in", 16), ("num", 16, 255), ("or", 16, 0, 1), ("cut", 1, 2))
        self.becomes(
            rows, (3,), "kept kept known known", (("in", 16), ("num", 16, 255), ("num", 16, 255), ("num", 1, 1)), (3,),
        )

    def test_not_all_asked_bits_known(self):
        rows = (("in", 16), ("num", 16, 255), ("or", 16, 0, 1), ("cut", 9, 2))
        self.becomes(
            rows, (3,), "kept kept kept kept", (("in", 16), ("num", 16, 255), ("or", 16, 0, 1), ("cut", 9, 2)), (3,),
        )

    def test_by_facts_of_every_word(self):
        last = (
            ("not", 8, 3), ("and", 8, 0, 4), ("or", 8, 0, 5), ("xor", 8, 3, 5), ("add", 8, 3, 5), ("sub", 8, 3, 5),
            ("mul", 8, 3, 5), ("mul", 8, 0, 4), ("left", 8, 0, 8), ("left", 8, 3, 1), ("right", 8, 0, 63),
            ("slide", 8, 3, 1), ("cut", 3, 3), ("wide", 9, 3), ("sign", 9, 3), ("same", 1, 3, 5), ("less", 1, 0, 4),
            ("under", 1, 3, 5), ("pick", 8, 2, 4, 4), ("less", 1, 5, 0),
        )
        for row in last:
            rows = (("num", 8, 77), ("num", 8, 0), ("num", 8, 255), row)
            program = (INS + rows, (6,))
            number = reckoned_outs(program, (9, 9, 1))[0]
            with self.subTest(row=row):
                self.last_becomes(rows, "known", ("num", row[1], number))

    def test_one_row_twice(self):
        for word in ("xor", "sub"):
            self.last_becomes(((word, 8, 0, 0),), "known", ("num", 8, 0))
        for word in ("less", "under"):
            self.last_becomes(((word, 1, 0, 0),), "known", ("num", 1, 0))
        self.last_becomes((("same", 1, 0, 0),), "known", ("num", 1, 1))

    def test_one_row_twice_as_they_have_become(self):
        for word in ("xor", "sub", "less", "under", "same"):
            width = 1 if word in COMPARES else 8
            number = 1 if word == "same" else 0
            for one, other in ((0, 3), (3, 0), (3, 4)):
                rows = (("left", 8, 0, 0), ("or", 8, 0, 0), (word, width, one, other))
                with self.subTest(word=word, one=one, other=other):
                    self.last_becomes(rows, "known", ("num", width, number))
            rows = (("left", 8, 0, 0), ("left", 8, 1, 0), (word, width, 3, 4))
            self.last_becomes(rows, "kept", (word, width, 0, 1))

    def test_what_is_known_comes_ahead_of_one_row_twice(self):
        # Row 3 becomes row 1; just bit 3 of row 4 is asked, and it is known, as are unasked ones.
        rows = (
            ("in", 2), ("wide", 8, 0), ("num", 8, 0xF0), ("or", 8, 1, 2), ("xor", 8, 3, 1), ("num", 8, 8),
            ("and", 8, 4, 5), ("cut", 2, 3),
        )
        made = (("in", 2), ("wide", 8, 0), ("num", 8, 0xF0), ("num", 8, 0xF0), ("num", 8, 8), ("num", 8, 0), ("cut", 2, 1))
        self.becomes(rows, (6, 7), "kept kept kept passed known kept known kept", made, (5, 6))


class Passed(Trades):
    def passes(self, rows, out):
        self.last_becomes(rows, "passed", None, out)

    def test_one_row_twice(self):
        for word in ("and", "or"):
            self.passes(((word, 8, 1, 1),), 1)
            self.passes((("left", 8, 1, 0), (word, 8, 1, 3)), 1)
            self.passes((("left", 8, 1, 0), (word, 8, 3, 1)), 1)
        self.passes((("pick", 8, 2, 1, 1),), 1)
        self.passes((("left", 8, 1, 0), ("pick", 8, 2, 3, 1)), 1)
        self.last_becomes((("pick", 1, 2, 2, 2),), "passed", None, 2)

    def test_pick_with_c_known(self):
        self.passes((("num", 1, 1), ("pick", 8, 3, 0, 1)), 0)
        self.passes((("num", 1, 0), ("pick", 8, 3, 0, 1)), 1)
        self.becomes(
            (("in", 8), ("not", 8, 0), ("num", 1, 0), ("pick", 8, 2, 1, 0)), (3,), "kept gone kept passed",
            (("in", 8), ("num", 1, 0)), (0,),
        )
        self.becomes(
            (("in", 8), ("not", 8, 0), ("num", 1, 1), ("pick", 8, 2, 1, 0)), (3,), "kept kept kept passed",
            (("in", 8), ("not", 8, 0), ("num", 1, 1)), (1,),
        )

    def test_shifts_by_0(self):
        for word in SHIFTS:
            self.passes(((word, 8, 1, 0),), 1)
            self.last_becomes(((word, 8, 1, 1),), "kept", (word, 8, 1, 1))

    def test_to_the_operand_s_width(self):
        for word in ("cut", "wide", "sign"):
            self.passes(((word, 8, 1),), 1)
        self.last_becomes((("cut", 7, 1),), "kept", ("cut", 7, 1))
        self.last_becomes((("wide", 9, 1),), "kept", ("wide", 9, 1))
        self.last_becomes((("sign", 9, 1),), "kept", ("sign", 9, 1))

    def test_neutral_numbers_on_either_side(self):
        for word, number in (("and", 255), ("or", 0), ("xor", 0), ("add", 0), ("mul", 1)):
            with self.subTest(word=word):
                self.passes((("num", 8, number), (word, 8, 1, 3)), 1)
                self.passes((("num", 8, number), (word, 8, 3, 1)), 1)
        self.passes((("num", 8, 0), ("sub", 8, 1, 3)), 1)
        self.last_becomes((("num", 8, 0), ("sub", 8, 3, 1)), "kept", ("sub", 8, 3, 1))

    def test_so_far_as_it_is_asked(self):
        # Just bits 2 and 3 are asked of row 3.
        for word, number, passed in (
            ("and", 0x0C, True), ("and", 0x1C, True), ("and", 0x08, False),
            ("or", 0xF3, True), ("or", 0x08, False), ("xor", 0xF3, True), ("xor", 0x04, False),
            ("add", 0xF0, True), ("add", 0xF1, False), ("mul", 0xF1, True), ("mul", 0xF3, False), ("mul", 0xF9, False),
        ):
            for operands in ((0, 1), (1, 0)):
                rows = (("in", 8), ("num", 8, number), (word, 8) + operands, ("right", 8, 2, 2), ("cut", 2, 3))
                self.assertEqual(asked((rows, (4,)), facts_of((rows, (4,))))[2], 0x0C)
                made, words = traded((rows, (4,)))
                with self.subTest(word=word, number=number, operands=operands):
                    self.assertEqual(words[2] == "passed", passed)
                    self.assertEqual(words[4], "kept")
                    self.same_told((rows, (4,)), made)
        for number, word in ((0xF0, "passed"), (0xF2, "kept")):
            rows = (("in", 8), ("num", 8, number), ("sub", 8, 0, 1), ("right", 8, 2, 2), ("cut", 2, 3))
            self.assertEqual(traded((rows, (4,)))[1][2], word)

    def test_outs_become_another_row(self):
        rows = (("in", 8), ("left", 8, 0, 0), ("or", 8, 1, 1), ("not", 8, 2), ("wide", 8, 3))
        self.becomes(rows, (4, 2, 1, 0, 4), "kept passed passed kept passed", (("in", 8), ("not", 8, 0)), (1, 0, 0, 0, 1))

    def test_to_a_row_that_was_passed(self):
        rows = (("in", 8), ("num", 8, 0), ("add", 8, 1, 0), ("sub", 8, 2, 1), ("mul", 8, 3, 3))
        self.becomes(
            rows, (4,), "kept kept passed passed kept", (("in", 8), ("num", 8, 0), ("mul", 8, 0, 0)), (2,),
        )


class Cheaper(Trades):
    def test_mul_by_one_bit(self):
        for k in range(1, 8):
            self.last_becomes((("num", 8, 2 ** k), ("mul", 8, 1, 3)), "cheaper", ("left", 8, 1, k))
            self.last_becomes((("num", 8, 2 ** k), ("mul", 8, 3, 1)), "cheaper", ("left", 8, 1, k))
        self.last_becomes((("num", 8, 3), ("mul", 8, 1, 3)), "kept", ("mul", 8, 1, 3))
        self.last_becomes((("num", 8, 129), ("mul", 8, 3, 1)), "kept", ("mul", 8, 3, 1))

    def test_mul_so_far_as_it_is_asked(self):
        for number, word in ((0xF2, "cheaper"), (0xF8, "cheaper"), (0xF6, "kept"), (0xE2, "cheaper"), (0xF1, "passed")):
            for operands in ((0, 1), (1, 0)):
                rows = (("in", 8), ("num", 8, number), ("mul", 8) + operands, ("cut", 4, 2))
                made, words = traded((rows, (3,)))
                with self.subTest(number=number, operands=operands):
                    self.assertEqual(words[2], word)
                    if word == "cheaper":
                        self.assertEqual(made[0][2], ("left", 8, 0, (number % 16).bit_length() - 1))
                    self.same_told((rows, (3,)), made)

    def test_mul_where_not_all_is_known(self):
        # Bit 2 a known one, bit 0 not known: no single bit.
        rows = (("num", 8, 4), ("or", 8, 0, 3), ("num", 8, 5), ("and", 8, 4, 5), ("mul", 8, 1, 6))
        self.last_becomes(rows, "kept", ("mul", 8, 1, 6))

    def test_add_to_or(self):
        rows = (("num", 8, 0x0F), ("and", 8, 0, 3), ("num", 8, 0xF0), ("and", 8, 1, 5), ("add", 8, 4, 6))
        self.last_becomes(rows, "cheaper", ("or", 8, 4, 6))
        self.last_becomes(rows[:4] + (("add", 8, 6, 4),), "cheaper", ("or", 8, 6, 4))
        rows = (("num", 8, 0x1F), ("and", 8, 0, 3), ("num", 8, 0xF0), ("and", 8, 1, 5), ("add", 8, 4, 6))
        self.last_becomes(rows, "kept", ("add", 8, 4, 6))

    def test_noughts_of_both(self):
        rows = (("num", 8, 0x0C), ("and", 8, 0, 3), ("num", 8, 0x30), ("and", 8, 1, 5), ("add", 8, 4, 6))
        self.last_becomes(rows, "cheaper", ("or", 8, 4, 6))

    def test_a_one_of_the_first_and_a_nought_of_the_second(self):
        rows = (("num", 8, 255), ("num", 8, 0x3C), ("and", 8, 1, 4), ("sub", 8, 3, 5))
        self.last_becomes(rows, "cheaper", ("xor", 8, 3, 5))

    def test_add_so_far_as_it_is_asked(self):
        for mask, word in ((0x0C, "cheaper"), (0x1C, "kept"), (0x4C, "cheaper")):
            rows = (
                ("in", 8), ("in", 8), ("num", 8, mask), ("num", 8, 0xF3), ("and", 8, 0, 2), ("and", 8, 1, 3),
                ("add", 8, 4, 5), ("cut", 5, 6),
            )
            made, words = traded((rows, (7,)))
            self.assertEqual(words[6], word)
            self.same_told((rows, (7,)), made)

    def test_sub_to_xor(self):
        self.last_becomes((("num", 8, 255), ("sub", 8, 3, 1)), "cheaper", ("xor", 8, 3, 1))
        self.last_becomes((("num", 8, 127), ("sub", 8, 3, 1)), "kept", ("sub", 8, 3, 1))
        rows = (("num", 8, 0x3C), ("or", 8, 0, 3), ("and", 8, 1, 3), ("sub", 8, 4, 5))
        self.last_becomes(rows, "cheaper", ("xor", 8, 4, 5))
        self.last_becomes(rows[:3] + (("sub", 8, 5, 4),), "kept", ("sub", 8, 5, 4))
        rows = (("num", 8, 0x3C), ("num", 8, 0x1C), ("or", 8, 0, 4), ("and", 8, 1, 3), ("sub", 8, 5, 6))
        self.last_becomes(rows, "kept", ("sub", 8, 5, 6))

    def test_sub_so_far_as_it_is_asked(self):
        for number, word in ((0x0F, "cheaper"), (0x1F, "cheaper"), (0x07, "kept"), (0xFE, "kept")):
            rows = (("in", 8), ("num", 8, number), ("sub", 8, 1, 0), ("cut", 4, 2))
            made, words = traded((rows, (3,)))
            with self.subTest(number=number):
                self.assertEqual(words[2], word)
                self.same_told((rows, (3,)), made)


class Kept(Trades):
    def test_each_word(self):
        for row in (
            [(word, 8, 0, 1) for word in TWO_OF_ONE_WIDTH] + [(word, 1, 0, 1) for word in COMPARES]
            + [("not", 8, 0), ("pick", 8, 2, 0, 1), ("cut", 3, 0), ("wide", 9, 0), ("sign", 64, 0)]
            + [(word, 8, 0, k) for word in SHIFTS for k in (1, 7)] + [("slide", 8, 0, 63)]
        ):
            with self.subTest(row=row):
                self.last_becomes((row,), "kept", row)

    def test_rows_are_counted_anew(self):
        rows = (
            ("in", 8), ("num", 8, 9), ("in", 8), ("not", 8, 0), ("in", 1), ("left", 8, 2, 0), ("pick", 8, 4, 5, 0),
            ("left", 8, 6, 3), ("cut", 3, 7),
        )
        self.becomes(
            rows, (7, 5), "kept gone kept gone kept passed kept kept gone",
            (("in", 8), ("in", 8), ("in", 1), ("pick", 8, 2, 1, 0), ("left", 8, 3, 3)), (4, 1),
        )

    def test_no_one_row_twice(self):
        for word in TWO_OF_ONE_WIDTH:
            self.last_becomes((("not", 8, 0), ("not", 8, 0), (word, 8, 3, 4)), "kept", (word, 8, 3, 4))

    def test_add_and_mul_of_one_row_twice(self):
        self.last_becomes((("add", 8, 1, 1),), "kept", ("add", 8, 1, 1))
        self.last_becomes((("mul", 8, 1, 1),), "kept", ("mul", 8, 1, 1))


class Many(Trades):
    def told_alike(self, program):
        found = traded(program)
        self.assertTrue(all_kinds(found))
        self.assertEqual(traded(program), found)
        made, words = found
        self.assertEqual(len(words), len(program[0]))
        self.assertEqual(len(made[0]), len([word for word in words if word in ("kept", "known", "cheaper")]))
        self.assertEqual([row for row in made[0] if row[0] == "in"], [row for row in program[0] if row[0] == "in"])
        self.same_told(program, made)
        return words

    def test_any_programs(self):
        for seed in range(80):
            with self.subTest(seed=seed):
                self.told_alike(some_program(seed, 40, 1 + seed % 64, seed % 6))

    def test_programs_in_which_much_is_exchanged(self):
        words = []
        for seed in range(150):
            with self.subTest(seed=seed):
                words.extend(self.told_alike(trade_program(seed, 24, 1 + seed % 16)))
        for word in ("gone", "known", "passed", "cheaper", "kept"):
            self.assertGreater(words.count(word), 10)

    def test_every_word(self):
        self.told_alike(EVERY_WORD)

    def test_all_inputs_of_few_bits(self):
        for seed in range(60):
            program = some_program(seed, 14, 3, 2)
            made = traded(program)[0]
            for one in range(2 ** program[0][0][1]):
                for other in range(2 ** program[0][1][1]):
                    self.assertEqual(told(made, (one, other)), reckoned_outs(program, (one, other)))


if __name__ == "__main__":
    unittest.main()
