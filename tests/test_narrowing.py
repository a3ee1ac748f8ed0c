"""Points 21 and 22, and 3 (d), (e): programs made by stays, the narrowed program and the lean one."""

import unittest

from fewbits.asking import asked, wrong_mask
from fewbits.looking import look
from fewbits.narrowing import lean, made_by, narrowed
from fewbits.prices import price
from fewbits.rules import facts_of, wrong_fact
from fewbits.runs import told
from fewbits.stays import stays, wrong_stay
from fewbits.trading import traded
from helper import (
    COMPARES, EVERY_WORD, TWO_OF_ONE_WIDTH, all_kinds, reckoned_outs, reckoned_run, row_operands, some_inputs,
    some_program, some_stays, trade_program, weaker_facts, wider_masks,
)


def ins_of(program):
    return [row for row in program[0] if row[0] == "in"]


def out_widths(program):
    return [program[0][out][1] for out in program[1]]


class Made(unittest.TestCase):
    def same_told(self, program, made, count=30):
        self.assertIs(look(made), True)
        self.assertLessEqual(price(made), price(program))
        self.assertEqual(ins_of(made), ins_of(program))
        self.assertEqual(out_widths(made), out_widths(program))
        for inputs in some_inputs(program, 21, count):
            self.assertEqual(told(made, inputs), reckoned_outs(program, inputs))

    def made(self, rows, outs, awaited, awaited_outs, given=None):
        """By the program's own facts and asked bits, and its own stays or, row by row, those given."""
        program = (rows, outs)
        self.assertIs(look(program), True)
        facts = facts_of(program)
        masks = asked(program, facts)
        by = list(stays(program, facts, masks))
        for k, stay in (given or {}).items():
            by[k] = stay
        self.assertIsNone(wrong_stay(program, facts, masks, tuple(by)), by)
        found = made_by(program, facts, masks, tuple(by))
        self.assertTrue(all_kinds(found))
        self.assertEqual(found, (awaited, awaited_outs))
        self.assertEqual(made_by(program, facts, masks, tuple(by)), found)
        self.same_told(program, found)


class Works(Made):
    def test_two_of_one_width(self):
        for word in TWO_OF_ONE_WIDTH:
            with self.subTest(word=word):
                self.made(
                    (("in", 8), ("in", 8), (word, 8, 0, 1), ("cut", 3, 2)), (3,),
                    (("in", 8), ("in", 8), ("cut", 3, 0), ("cut", 3, 1), (word, 3, 2, 3)), (4,),
                )
                self.made(
                    (("in", 8), ("in", 8), (word, 8, 1, 0)), (2,), (("in", 8), ("in", 8), (word, 8, 1, 0)), (2,),
                )

    def test_not_and_left(self):
        self.made(
            (("in", 8), ("not", 8, 0), ("cut", 3, 1)), (2,), (("in", 8), ("cut", 3, 0), ("not", 3, 1)), (2,),
        )
        self.made(
            (("in", 8), ("left", 8, 0, 1), ("cut", 3, 1)), (2,), (("in", 8), ("cut", 3, 0), ("left", 3, 1, 1)), (2,),
        )

    def test_pick(self):
        self.made(
            (("in", 8), ("in", 8), ("in", 1), ("pick", 8, 2, 0, 1), ("cut", 3, 3)), (4,),
            (("in", 8), ("in", 8), ("in", 1), ("cut", 3, 0), ("cut", 3, 1), ("pick", 3, 2, 3, 4)), (5,),
        )

    def test_num(self):
        self.made(
            (("in", 8), ("num", 8, 0xAD), ("xor", 8, 0, 1), ("cut", 4, 2)), (3,),
            (("in", 8), ("num", 4, 13), ("cut", 4, 0), ("xor", 4, 2, 1)), (3,),
        )
        self.made(
            (("in", 8), ("num", 8, 0xA5), ("xor", 8, 0, 1), ("cut", 4, 2)), (3,),
            (("in", 8), ("num", 3, 5), ("cut", 4, 0), ("wide", 4, 1), ("xor", 4, 2, 3)), (4,),
        )
        self.made((("num", 8, 5),), (0,), (("num", 3, 5), ("wide", 8, 0)), (1,))
        self.made((("num", 8, 0xFB),), (0,), (("num", 4, 11), ("sign", 8, 0)), (1,), {0: ("sign", 4)})
        self.made((("num", 8, 0xFF),), (0,), (("num", 1, 1), ("sign", 8, 0)), (1,))
        self.made((("num", 8, 0xFF),), (0,), (("num", 8, 255),), (0,), {0: ("cut", 8)})

    def test_ins_stay_and_rows_that_are_none_go(self):
        self.made(
            (("in", 8), ("in", 5), ("not", 8, 0), ("num", 8, 3), ("in", 2), ("cut", 1, 0)), (5,),
            (("in", 8), ("in", 5), ("in", 2), ("cut", 1, 0)), (3,),
        )


class Shifts(Made):
    def test_right_and_slide_with_a_cut(self):
        for word in ("right", "slide"):
            self.made(
                (("in", 8), (word, 8, 0, 2), ("cut", 3, 1)), (2,),
                (("in", 8), ("cut", 5, 0), (word, 5, 1, 2), ("cut", 3, 2)), (3,),
            )

    def test_up_to_the_old_width(self):
        for word in ("right", "slide"):
            self.made(
                (("in", 8), (word, 8, 0, 5), ("cut", 3, 1)), (2,), (("in", 8), (word, 8, 0, 5), ("cut", 3, 1)), (2,),
            )
            self.made(
                (("in", 8), (word, 8, 0, 4), ("cut", 3, 1)), (2,),
                (("in", 8), ("cut", 7, 0), (word, 7, 1, 4), ("cut", 3, 2)), (3,),
            )
        # Beyond the old width: above the noughts, or the copies, that come in.
        self.made(
            (("in", 8), ("right", 8, 0, 6), ("cut", 4, 1)), (2,),
            (("in", 8), ("right", 8, 0, 6), ("cut", 2, 1), ("wide", 4, 2)), (3,),
        )
        self.made(
            (("in", 8), ("slide", 8, 0, 6), ("cut", 4, 1)), (2,),
            (("in", 8), ("slide", 8, 0, 6), ("cut", 2, 1), ("sign", 4, 2)), (3,),
        )

    def test_by_0(self):
        for word in ("right", "slide"):
            self.made(
                (("in", 8), (word, 8, 0, 0), ("cut", 3, 1)), (2,), (("in", 8), ("cut", 3, 0), (word, 3, 1, 0)), (2,),
            )

    def test_all_asked(self):
        self.made(
            (("in", 8), ("right", 8, 0, 4)), (1,), (("in", 8), ("right", 8, 0, 4), ("cut", 4, 1), ("wide", 8, 2)), (3,),
        )
        self.made(
            (("in", 8), ("slide", 8, 0, 4)), (1,), (("in", 8), ("slide", 8, 0, 4), ("cut", 4, 1), ("sign", 8, 2)), (3,),
        )
        for word in ("right", "slide"):
            self.made((("in", 8), (word, 8, 0, 4)), (1,), (("in", 8), (word, 8, 0, 4)), (1,), {1: ("cut", 8)})
        self.made(
            (("in", 8), ("slide", 8, 0, 4)), (1,), (("in", 8), ("slide", 8, 0, 4), ("cut", 6, 1), ("sign", 8, 2)), (3,),
            {1: ("sign", 6)},
        )

    def test_by_the_width_or_more(self):
        # Nothing is asked of the input by right; it is an in, so it is fetched as itself.
        self.made(
            (("in", 8), ("right", 8, 0, 63)), (1,), (("in", 8), ("right", 8, 0, 63), ("cut", 1, 1), ("wide", 8, 2)), (3,),
        )
        self.made(
            (("in", 8), ("slide", 8, 0, 63)), (1,), (("in", 8), ("slide", 8, 0, 63), ("cut", 1, 1), ("sign", 8, 2)), (3,),
        )
        self.made(
            (("in", 8), ("not", 8, 0), ("right", 8, 1, 8)), (2,),
            (("in", 8), ("num", 8, 0), ("right", 8, 1, 8), ("cut", 1, 2), ("wide", 8, 3)), (4,),
        )


class Fits(Made):
    def test_cut(self):
        self.made((("in", 8), ("cut", 3, 0)), (1,), (("in", 8), ("cut", 3, 0)), (1,))
        self.made((("in", 8), ("cut", 8, 0)), (1,), (("in", 8),), (0,))
        self.made(
            (("in", 3), ("wide", 16, 0), ("cut", 8, 1)), (2,), (("in", 3), ("wide", 8, 0)), (1,),
        )
        self.made(
            (("in", 3), ("sign", 16, 0), ("cut", 8, 1)), (2,), (("in", 3), ("sign", 8, 0)), (1,),
        )
        self.made(
            (("in", 3), ("wide", 16, 0), ("cut", 8, 1)), (2,), (("in", 3), ("wide", 8, 0)), (1,), {2: ("cut", 8)},
        )

    def test_wide_to_no_more_than_the_old_width(self):
        self.made((("in", 8), ("wide", 16, 0), ("cut", 5, 1)), (2,), (("in", 8), ("cut", 5, 0)), (1,))
        self.made((("in", 8), ("wide", 16, 0)), (1,), (("in", 8), ("wide", 16, 0)), (1,))
        self.made((("in", 8), ("wide", 8, 0)), (1,), (("in", 8),), (0,))

    def test_sign_to_no_more_than_the_old_width(self):
        self.made((("in", 8), ("sign", 16, 0), ("cut", 5, 1)), (2,), (("in", 8), ("cut", 5, 0)), (1,))
        self.made((("in", 8), ("sign", 16, 0)), (1,), (("in", 8), ("sign", 16, 0)), (1,))
        self.made((("in", 8), ("sign", 8, 0)), (1,), (("in", 8),), (0,))

    def test_above_the_operand_s_old_width(self):
        self.made(
            (("in", 8), ("wide", 16, 0)), (1,), (("in", 8), ("wide", 12, 0), ("wide", 16, 1)), (2,), {1: ("nought", 12)},
        )
        self.made((("in", 8), ("wide", 16, 0)), (1,), (("in", 8), ("wide", 16, 0)), (1,), {1: ("cut", 16)})
        self.made(
            (("in", 8), ("sign", 16, 0)), (1,), (("in", 8), ("sign", 12, 0), ("sign", 16, 1)), (2,), {1: ("sign", 12)},
        )
        self.made((("in", 8), ("sign", 16, 0)), (1,), (("in", 8), ("sign", 16, 0)), (1,), {1: ("cut", 16)})
        # Fetched first to the old width, then to the stay's.
        self.made(
            (("in", 3), ("wide", 8, 0), ("sign", 16, 1)), (2,),
            (("in", 3), ("wide", 8, 0), ("sign", 12, 1), ("sign", 16, 2)), (3,), {2: ("sign", 12)},
        )
        self.made(
            (("in", 3), ("sign", 8, 0), ("wide", 16, 1)), (2,),
            (("in", 3), ("sign", 8, 0), ("wide", 10, 1), ("wide", 16, 2)), (3,), {2: ("nought", 10)},
        )

    def test_a_sign_with_unasked_top(self):
        # A stay of sign, of which no bit is asked at its width or above.
        self.made(
            (("in", 8), ("not", 8, 0), ("cut", 3, 1)), (2,),
            (("in", 8), ("cut", 5, 0), ("not", 5, 1), ("cut", 3, 2)), (3,), {1: ("sign", 5)},
        )


class NoneFetched(Made):
    def test_as_a_num_0(self):
        # Nothing is asked of row 1: the other side of the and is all noughts.
        self.made(
            (("in", 8), ("not", 8, 0), ("num", 8, 0), ("and", 8, 1, 2)), (3,),
            (("in", 8), ("num", 1, 0), ("num", 1, 0), ("and", 1, 2, 1), ("wide", 8, 3)), (4,),
        )

    def test_of_pick(self):
        self.made(
            (("in", 8), ("not", 8, 0), ("num", 1, 1), ("pick", 8, 2, 0, 1)), (3,),
            (("in", 8), ("num", 1, 1), ("num", 8, 0), ("pick", 8, 1, 0, 2)), (3,),
        )
        self.made(
            (("in", 8), ("not", 8, 0), ("num", 1, 0), ("pick", 8, 2, 1, 0), ("cut", 3, 3)), (4,),
            (("in", 8), ("num", 1, 0), ("num", 3, 0), ("cut", 3, 0), ("pick", 3, 1, 2, 3)), (4,),
        )

    def test_of_left_wide_and_mul(self):
        self.made(
            (("in", 8), ("not", 8, 0), ("left", 8, 1, 3), ("cut", 3, 2)), (3,),
            (("in", 8), ("num", 1, 0), ("left", 1, 1, 3), ("wide", 3, 2)), (3,),
        )
        self.made(
            (("in", 8), ("not", 8, 0), ("wide", 12, 1), ("right", 12, 2, 8), ("cut", 1, 3)), (4,),
            (("in", 8), ("num", 1, 0), ("wide", 9, 1), ("right", 9, 2, 8), ("cut", 1, 3)), (4,),
        )
        self.made(
            (("in", 8), ("not", 8, 0), ("num", 8, 0), ("mul", 8, 1, 2)), (3,),
            (("in", 8), ("num", 1, 0), ("num", 1, 0), ("mul", 1, 2, 1), ("wide", 8, 3)), (4,),
        )

    def test_once_for_each_width(self):
        self.made(
            (("in", 8), ("not", 8, 0), ("num", 1, 1), ("pick", 8, 2, 0, 1), ("pick", 8, 2, 3, 1), ("num", 8, 0)), (4, 3),
            (("in", 8), ("num", 1, 1), ("num", 8, 0), ("pick", 8, 1, 0, 2), ("pick", 8, 1, 3, 2)), (4, 3),
        )
        rows = (
            ("in", 8), ("not", 8, 0), ("num", 1, 1), ("pick", 8, 2, 0, 1), ("in", 4), ("not", 4, 4), ("pick", 4, 2, 4, 5),
            ("cut", 4, 1), ("pick", 4, 2, 6, 7),
        )
        made = (
            ("in", 8), ("num", 1, 1), ("num", 8, 0), ("pick", 8, 1, 0, 2), ("in", 4), ("num", 4, 0), ("pick", 4, 1, 4, 5),
            ("pick", 4, 1, 6, 5),
        )
        self.made(rows, (3, 8), made, (3, 7))

    def test_a_row_num_0_stands_apart(self):
        self.made(
            (("in", 8), ("num", 8, 0), ("not", 8, 0), ("num", 1, 1), ("pick", 8, 3, 0, 2), ("xor", 8, 4, 1)), (5,),
            (("in", 8), ("num", 8, 0), ("num", 1, 1), ("num", 8, 0), ("pick", 8, 2, 0, 3), ("xor", 8, 4, 1)), (5,),
            {1: ("cut", 8)},
        )


class Once(Made):
    def test_one_row_fetched_twice(self):
        self.made(
            (("in", 8), ("add", 8, 0, 0), ("cut", 3, 1)), (2,), (("in", 8), ("cut", 3, 0), ("add", 3, 1, 1)), (2,),
        )
        self.made(
            (("in", 8), ("not", 8, 0), ("cut", 3, 1), ("cut", 3, 0), ("xor", 3, 2, 3)), (4, 3),
            (("in", 8), ("cut", 3, 0), ("not", 3, 1), ("xor", 3, 2, 1)), (3, 1),
        )

    def test_a_row_s_own_cut_ahead_of_a_fetched_one(self):
        self.made(
            (("in", 8), ("cut", 3, 0), ("not", 8, 0), ("cut", 3, 2)), (1, 3),
            (("in", 8), ("cut", 3, 0), ("not", 3, 1)), (1, 2),
        )

    def test_other_widths_are_others(self):
        self.made(
            (("in", 8), ("cut", 3, 0), ("cut", 4, 0), ("cut", 3, 2)), (1, 2, 3),
            (("in", 8), ("cut", 3, 0), ("cut", 4, 0), ("cut", 3, 2)), (1, 2, 3),
        )

    def test_own_wides_and_signs_and_fetched_ones(self):
        self.made(
            (("in", 8), ("wide", 16, 0), ("wide", 16, 0)), (1, 2), (("in", 8), ("wide", 16, 0)), (1, 1), {2: ("cut", 16)},
        )
        self.made(
            (("in", 8), ("sign", 16, 0), ("sign", 16, 0)), (1, 2), (("in", 8), ("sign", 16, 0)), (1, 1), {1: ("cut", 16)},
        )
        self.made(
            (("in", 8), ("sign", 16, 0), ("wide", 16, 0)), (1, 2, 1),
            (("in", 8), ("sign", 16, 0), ("wide", 16, 0)), (1, 2, 1),
        )

    def test_a_shift_s_own_cut(self):
        # Row 3 fetches row 2, which is kept at width 4 (its own cut), to 3; row 4 is the cut of row 1 itself.
        self.made(
            (("in", 8), ("right", 8, 0, 4), ("not", 8, 1), ("cut", 4, 1), ("cut", 3, 2)), (1, 3, 4),
            (("in", 8), ("right", 8, 0, 4), ("cut", 4, 1), ("cut", 3, 2), ("not", 3, 3), ("wide", 8, 2)), (5, 2, 4),
        )

    def test_outs_fetched_alike(self):
        self.made(
            (("in", 8), ("right", 8, 0, 4)), (1, 0, 1),
            (("in", 8), ("right", 8, 0, 4), ("cut", 4, 1), ("wide", 8, 2)), (3, 0, 3),
        )


class Compares(Made):
    def test_both_with_noughts(self):
        rows = (("in", 3), ("in", 5), ("wide", 8, 0), ("wide", 8, 1))
        for word in ("same", "less"):
            self.made(
                rows + ((word, 1, 2, 3),), (4,), (("in", 3), ("in", 5), ("wide", 5, 0), (word, 1, 2, 1)), (3,),
            )
            self.made(
                rows + ((word, 1, 3, 2),), (4,), (("in", 3), ("in", 5), ("wide", 5, 0), (word, 1, 1, 2)), (3,),
            )
        self.made(
            rows + (("under", 1, 2, 3),), (4,),
            (("in", 3), ("in", 5), ("wide", 6, 0), ("wide", 6, 1), ("under", 1, 2, 3)), (4,),
        )

    def test_under_not_more_than_the_old_width(self):
        for word in COMPARES:
            self.made((("in", 8), ("in", 8), (word, 1, 0, 1)), (2,), (("in", 8), ("in", 8), (word, 1, 0, 1)), (2,))
            self.made(
                (("in", 3), ("in", 8), ("wide", 8, 0), (word, 1, 2, 1)), (3,),
                (("in", 3), ("in", 8), ("wide", 8, 0), (word, 1, 2, 1)), (3,),
            )
        self.made(
            (("in", 7), ("in", 3), ("wide", 8, 0), ("wide", 8, 1), ("under", 1, 2, 3)), (4,),
            (("in", 7), ("in", 3), ("wide", 8, 0), ("wide", 8, 1), ("under", 1, 2, 3)), (4,),
        )

    def test_both_with_signs(self):
        for word in COMPARES:
            self.made(
                (("in", 3), ("in", 5), ("sign", 8, 0), ("sign", 8, 1), (word, 1, 2, 3)), (4,),
                (("in", 3), ("in", 5), ("sign", 5, 0), (word, 1, 2, 1)), (3,),
            )

    def test_one_with_a_sign(self):
        for word in COMPARES:
            self.made(
                (("in", 3), ("in", 5), ("wide", 8, 0), ("sign", 8, 1), (word, 1, 2, 3)), (4,),
                (("in", 3), ("in", 5), ("wide", 8, 0), ("sign", 8, 1), (word, 1, 2, 3)), (4,),
            )
            self.made(
                (("in", 3), ("in", 8), ("sign", 8, 0), (word, 1, 2, 1)), (3,),
                (("in", 3), ("in", 8), ("sign", 8, 0), (word, 1, 2, 1)), (3,),
            )

    def test_operands_in_their_order(self):
        self.made(
            (("in", 3), ("in", 5), ("sign", 8, 1), ("wide", 8, 0), ("less", 1, 2, 3)), (4,),
            (("in", 3), ("in", 5), ("sign", 8, 1), ("wide", 8, 0), ("less", 1, 2, 3)), (4,),
        )

    def test_wider_signs(self):
        self.made(
            (("in", 3), ("in", 5), ("sign", 8, 0), ("sign", 8, 1), ("less", 1, 2, 3)), (4,),
            (("in", 3), ("in", 5), ("sign", 6, 0), ("sign", 6, 1), ("less", 1, 2, 3)), (4,), {2: ("sign", 6)},
        )


def programs():
    for seed in range(50):
        yield seed, some_program(seed, 30, 1 + seed, 1 + seed % 5)
        yield seed, trade_program(seed, 24, 1 + seed % 20)


class WhateverIsLetBy(Made):
    """Point 3 (e), and the last words of point 21."""

    def test_any_stays(self):
        for seed, program in programs():
            own = facts_of(program)
            less = weaker_facts(program, seed)
            self.assertIsNone(wrong_fact(program, less))
            for facts, masks in (
                (own, asked(program, own)), (less, asked(program, less)), (less, wider_masks(program, less, seed)),
            ):
                self.assertIsNone(wrong_mask(program, facts, masks))
                for by in (stays(program, facts, masks), some_stays(program, facts, masks, seed)):
                    self.assertIsNone(wrong_stay(program, facts, masks, by))
                    with self.subTest(seed=seed):
                        found = made_by(program, facts, masks, by)
                        self.assertTrue(all_kinds(found))
                        self.same_told(program, found, 10)

    def test_cuts_wides_signs_are_made_once(self):
        for seed, program in programs():
            facts = facts_of(program)
            masks = asked(program, facts)
            made = made_by(program, facts, masks, some_stays(program, facts, masks, seed))
            moved = [row for row in made[0] if row[0] in ("cut", "wide", "sign")]
            self.assertEqual(len(moved), len(set(moved)))
            for row in moved:
                self.assertNotEqual(row[1], made[0][row[2]][1])
            for k, row in enumerate(made[0]):
                self.assertTrue(all(a < k for a in row_operands(row)))


class Narrowed(Made):
    def test_the_pair(self):
        for seed, program in programs():
            facts = facts_of(program)
            masks = asked(program, facts)
            by = stays(program, facts, masks)
            found = narrowed(program)
            self.assertIs(type(found), tuple)
            self.assertTrue(all_kinds(found, (int, str, type(None))))
            self.assertEqual(found, (made_by(program, facts, masks, by), by))
            self.assertEqual(narrowed(program), found)
            self.same_told(program, found[0], 10)

    def test_by_hand(self):
        program = ((("in", 8), ("not", 8, 0), ("num", 8, 7), ("and", 8, 0, 2)), (3,))
        made = (("in", 8), ("num", 3, 7), ("cut", 3, 0), ("and", 3, 2, 1), ("wide", 8, 3))
        by = (("cut", 8), None, ("nought", 3), ("nought", 3))
        self.assertEqual(narrowed(program), ((made, (4,)), by))

    def test_every_word(self):
        self.same_told(EVERY_WORD, narrowed(EVERY_WORD)[0])
        self.same_told(EVERY_WORD, lean(EVERY_WORD))


def grown_program():
    """Forty rows at most, whose lean one has more: each group fetches both inputs to a width of its own."""
    rows = [("in", 64), ("in", 64), ("xor", 64, 0, 1)]
    for k in range(9):
        count = len(rows)
        rows += [("mul", 64, 0, 1), ("cut", 5 + 3 * k, count), ("wide", 64, count + 1), ("add", 64, count - 1, count + 2)]
    return (tuple(rows), (len(rows) - 1,))


class Lean(Made):
    def test_the_narrowed_one_of_the_traded_one(self):
        for seed, program in programs():
            found = lean(program)
            self.assertTrue(all_kinds(found))
            self.assertEqual(found, narrowed(traded(program)[0])[0])
            self.assertEqual(lean(program), found)
            self.same_told(program, found, 10)

    def test_by_hand(self):
        program = ((("in", 8), ("num", 8, 4), ("mul", 8, 0, 1), ("cut", 5, 2)), (3,))
        self.assertEqual(lean(program), ((("in", 8), ("cut", 5, 0), ("left", 5, 1, 2)), (2,)))

    def test_more_rows_than_40(self):
        program = grown_program()
        self.assertLessEqual(len(program[0]), 40)
        found = lean(program)
        self.assertGreater(len(found[0]), 40)
        self.same_told(program, found)
        again = lean(found)
        self.same_told(program, again)
        self.same_told(program, narrowed(found)[0])

    def test_all_inputs_of_few_bits(self):
        for seed in range(60):
            program = some_program(seed, 14, 3, 2)
            made = (narrowed(program)[0], lean(program))
            for one in range(2 ** program[0][0][1]):
                for other in range(2 ** program[0][1][1]):
                    awaited = reckoned_outs(program, (one, other))
                    self.assertEqual([told(each, (one, other)) for each in made], [awaited] * 2)

    def test_runs_of_made_programs(self):
        for seed, program in programs():
            found = lean(program)
            inputs = some_inputs(program, seed, 1)[2]
            numbers = reckoned_run(found, inputs)
            self.assertEqual(tuple([numbers[out] for out in found[1]]), reckoned_outs(program, inputs))


if __name__ == "__main__":
    unittest.main()
