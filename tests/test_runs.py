"""Points 9 and 10: runs, what they tell, and turned runs."""

import random
import unittest

from fewbits.runs import run, told, turned
from helper import EVERY_WORD, WORDS, all_kinds, reckoned_outs, reckoned_run, some_inputs, some_program


def any_masks(program, seed):
    rng = random.Random(seed)
    return tuple([rng.randrange(2 ** row[1]) for row in program[0]])


def one_mask(program, row, mask):
    return tuple([mask if k == row else 0 for k in range(len(program[0]))])


def noughts(program):
    return (0,) * len(program[0])


class Runs(unittest.TestCase):
    def as_reckoned(self, program, inputs):
        found = run(program, inputs)
        self.assertTrue(all_kinds(found, (int,)))
        self.assertIs(type(found), tuple)
        self.assertEqual(found, reckoned_run(program, inputs))
        self.assertEqual(run(program, inputs), found)
        outs = told(program, inputs)
        self.assertIs(type(outs), tuple)
        self.assertTrue(all_kinds(outs, (int,)))
        self.assertEqual(outs, reckoned_outs(program, inputs))
        self.assertEqual(told(program, inputs), outs)

    def test_by_hand(self):
        program = (
            (("in", 8), ("num", 8, 3), ("add", 8, 0, 1), ("in", 8), ("less", 1, 2, 3), ("pick", 8, 4, 2, 3)), (5, 4, 5),
        )
        self.assertEqual(run(program, (250, 254)), (250, 3, 253, 254, 1, 253))
        self.assertEqual(told(program, (250, 254)), (253, 1, 253))
        self.assertEqual(run(program, (255, 1)), (255, 3, 2, 1, 0, 1))
        self.assertEqual(told(program, (255, 1)), (1, 0, 1))

    def test_every_word(self):
        self.assertEqual(sorted(set(row[0] for row in EVERY_WORD[0])), sorted(WORDS))
        for first in range(256):
            for second in range(8):
                self.as_reckoned(EVERY_WORD, (first, second))

    def test_one_row_alone(self):
        self.assertEqual(run(((("in", 64),), (0,)), (2 ** 64 - 1,)), (2 ** 64 - 1,))
        self.assertEqual(told(((("in", 1),), (0, 0)), (1,)), (1, 1))
        self.assertEqual(run(((("num", 8, 77),), (0,)), ()), (77,))

    def test_without_an_in(self):
        program = ((("num", 8, 77), ("not", 8, 0), ("sub", 8, 0, 1)), (2, 1))
        self.assertEqual(run(program, ()), (77, 178, 155))
        self.assertEqual(told(program, ()), (155, 178))
        for seed in range(20):
            self.as_reckoned(some_program(seed, 15, 64, 0), ())

    def test_ins_in_their_order(self):
        program = ((("in", 4), ("num", 4, 9), ("in", 8), ("cut", 4, 2), ("in", 1)), (4, 2, 0))
        self.assertEqual(run(program, (5, 200, 1)), (5, 9, 200, 8, 1))
        self.assertEqual(told(program, (5, 200, 1)), (1, 200, 5))

    def test_any_programs(self):
        for seed in range(60):
            program = some_program(seed, 40, 1 + seed, seed % 7)
            for inputs in some_inputs(program, seed, 6):
                with self.subTest(seed=seed, inputs=inputs):
                    self.as_reckoned(program, inputs)


class Turned(unittest.TestCase):
    def test_by_hand(self):
        program = ((("in", 8), ("not", 8, 0), ("add", 8, 0, 1), ("same", 1, 2, 1)), (2,))
        self.assertEqual(run(program, (5,)), (5, 250, 255, 0))
        self.assertEqual(turned(program, (5,), (1, 0, 0, 0)), (4, 251, 255, 0))
        self.assertEqual(turned(program, (5,), (0, 3, 0, 0)), (5, 249, 254, 0))
        self.assertEqual(turned(program, (5,), (0, 0, 5, 0)), (5, 250, 250, 1))
        self.assertEqual(turned(program, (5,), (0, 0, 5, 1)), (5, 250, 250, 0))
        self.assertEqual(turned(program, (5,), (255, 255, 255, 1)), (250, 250, 11, 1))

    def test_without_masks_it_is_the_run(self):
        for seed in range(30):
            program = some_program(seed, 30, 64)
            for inputs in some_inputs(program, seed, 4):
                self.assertEqual(turned(program, inputs, noughts(program)), run(program, inputs))

    def test_a_mask_at_one_row(self):
        for seed in range(20):
            program = some_program(seed, 20, 16)
            rows = program[0]
            inputs = some_inputs(program, seed, 1)[2]
            plain = run(program, inputs)
            for k, row in enumerate(rows):
                for mask in (1, 2 ** (row[1] - 1), 2 ** row[1] - 1):
                    masks = one_mask(program, k, mask)
                    found = turned(program, inputs, masks)
                    with self.subTest(seed=seed, row=k, mask=mask):
                        self.assertEqual(found[:k], plain[:k])
                        self.assertEqual(found[k], plain[k] ^ mask)
                        self.assertEqual(found, reckoned_run(program, inputs, masks))

    def test_masks_at_ins(self):
        program = ((("in", 8), ("in", 4), ("wide", 8, 1), ("xor", 8, 0, 2)), (3,))
        for one in (0, 1, 128, 255):
            for other in (0, 8, 15):
                found = turned(program, (0x5A, 0x6), (one, other, 0, 0))
                self.assertEqual(found, run(program, (0x5A ^ one, 0x6 ^ other)))

    def test_masks_at_many_rows(self):
        for seed in range(60):
            program = some_program(seed, 40, 64, 1 + seed % 5)
            for inputs in some_inputs(program, seed, 4):
                masks = any_masks(program, seed)
                found = turned(program, inputs, masks)
                with self.subTest(seed=seed, inputs=inputs):
                    self.assertIs(type(found), tuple)
                    self.assertTrue(all_kinds(found, (int,)))
                    self.assertEqual(found, reckoned_run(program, inputs, masks))
                    self.assertEqual(turned(program, inputs, masks), found)

    def test_turned_twice_at_the_last_row(self):
        for seed in range(10):
            program = some_program(seed, 10, 16)
            last = len(program[0]) - 1
            inputs = some_inputs(program, seed, 1)[2]
            once = turned(program, inputs, one_mask(program, last, 1))
            self.assertEqual(once[last] ^ 1, run(program, inputs)[last])


if __name__ == "__main__":
    unittest.main()
