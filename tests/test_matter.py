"""Points 23 and 24, and 3 (f): whether a bit matters at a try, and all tries there are."""

import random
import unittest

from fewbits.asking import asked, way
from fewbits.errors import BitsError, TooMany
from fewbits.matter import all_tries, matter, matters
from fewbits.rules import facts_of
from helper import EVERY_WORD, all_kinds, needs_in, reckoned_outs, reckoned_run, some_inputs, some_program


def reckoned_matters(program, row, bit, try_):
    masks = [0] * len(program[0])
    masks[row] = 2 ** bit
    numbers = reckoned_run(program, try_, masks)
    return tuple([numbers[out] for out in program[1]]) != reckoned_outs(program, try_)


class Matters(unittest.TestCase):
    def test_by_hand(self):
        program = ((("in", 4), ("in", 4), ("and", 4, 0, 1)), (2,))
        self.assertIs(matters(program, 0, 0, (0, 1)), True)
        self.assertIs(matters(program, 0, 0, (0, 2)), False)
        self.assertIs(matters(program, 0, 1, (0, 2)), True)
        self.assertIs(matters(program, 1, 0, (1, 0)), True)
        self.assertIs(matters(program, 1, 0, (0, 0)), False)
        self.assertIs(matters(program, 2, 3, (0, 0)), True)

    def test_any_programs(self):
        rng = random.Random(23)
        for seed in range(40):
            program = some_program(seed, 20, 1 + seed, seed % 4)
            for try_ in some_inputs(program, seed, 4):
                for _ in range(10):
                    row = rng.randrange(len(program[0]))
                    bit = rng.randrange(program[0][row][1])
                    found = matters(program, row, bit, try_)
                    self.assertIs(found, reckoned_matters(program, row, bit, try_))
                    self.assertIs(matters(program, row, bit, try_), found)

    def test_without_ins(self):
        program = ((("num", 4, 5), ("cut", 2, 0)), (1,))
        self.assertIs(matters(program, 0, 1, ()), True)
        self.assertIs(matters(program, 0, 2, ()), False)


class Matter(unittest.TestCase):
    def told(self, program, row, bit, tries, awaited):
        found = matter(program, row, bit, tries)
        self.assertTrue(all_kinds(found))
        self.assertIs(type(found), tuple)
        self.assertEqual(found, awaited)
        self.assertEqual(matter(program, row, bit, tries), found)

    def test_the_first_try(self):
        program = ((("in", 4), ("in", 4), ("and", 4, 0, 1)), (2,))
        tries = ((0, 0), (15, 14), (0, 1), (3, 3))
        self.told(program, 0, 0, tries, ("try", 2))
        self.told(program, 0, 1, tries, ("try", 1))
        self.told(program, 2, 0, tries, ("try", 0))
        self.told(program, 1, 0, tries, ("try", 1))
        self.told(program, 1, 0, tries[2:], ("try", 1))

    def test_none_of_the_tries(self):
        program = ((("in", 4), ("in", 4), ("and", 4, 0, 1)), (2,))
        self.told(program, 0, 3, ((0, 0), (15, 7)), ("way", ((0, 3), (2, 3))))
        self.told(program, 0, 3, (), ("way", ((0, 3), (2, 3))))
        self.told(program, 2, 3, (), ("way", ((2, 3),)))

    def test_asked_but_of_no_matter(self):
        program = ((("in", 2), ("xor", 2, 0, 0)), (1,))
        self.told(program, 0, 1, all_tries(program), ("way", ((0, 1), (1, 1))))

    def test_unasked(self):
        program = ((("in", 4), ("cut", 2, 0), ("not", 4, 0)), (1,))
        tries = all_tries(program)
        self.told(program, 0, 2, tries, ("unasked", ()))
        self.told(program, 0, 3, (), ("unasked", ()))
        self.told(program, 2, 0, tries, ("unasked", ()))
        self.told(program, 0, 1, tries, ("try", 0))

    def test_by_the_program_s_own_facts(self):
        program = ((("in", 4), ("num", 4, 3), ("and", 4, 0, 1)), (2,))
        self.told(program, 0, 3, all_tries(program), ("unasked", ()))
        self.told(program, 0, 1, (), ("way", ((0, 1), (2, 1))))

    def test_300_tries(self):
        program = ((("in", 16), ("num", 16, 299), ("same", 1, 0, 1)), (2,))
        tries = tuple([(k,) for k in range(300)])
        self.told(program, 0, 0, tries, ("try", 298))
        self.told(program, 0, 15, tries, ("try", 299))
        self.told(program, 0, 15, tries[:299], ("way", ((0, 15), (2, 0))))

    def test_any_programs(self):
        """Point 3 (f): of an asked bit a try, or the way; of another one no try, for it never matters."""
        for seed in range(25):
            program = some_program(seed, 16, 6, seed % 4)
            facts = facts_of(program)
            masks = asked(program, facts)
            tries = tuple(some_inputs(program, seed, 6))
            for row in range(len(program[0])):
                for bit in range(program[0][row][1]):
                    found = matter(program, row, bit, tries)
                    at = [t for t, try_ in enumerate(tries) if reckoned_matters(program, row, bit, try_)]
                    if at:
                        self.assertEqual(found, ("try", at[0]))
                        self.assertTrue(masks[row] & 2 ** bit)
                    elif masks[row] & 2 ** bit:
                        self.assertEqual(found, ("way", way(program, facts, row, bit)))
                        self.is_way(program, facts, found[1], (row, bit))
                    else:
                        self.assertEqual(found, ("unasked", ()))

    def is_way(self, program, facts, steps, start):
        self.assertEqual(steps[0], start)
        self.assertIn(steps[-1][0], program[1])
        for one, other in zip(steps, steps[1:]):
            needs = needs_in(program, facts, other[0], 2 ** other[1])
            self.assertTrue([mask for a, mask in needs if a == one[0] and mask & 2 ** one[1]])


class AllTries(unittest.TestCase):
    def told(self, rows, awaited):
        found = all_tries((rows, (0,)))
        self.assertIs(type(found), tuple)
        self.assertTrue(all_kinds(found, (int,)))
        self.assertEqual(found, awaited)
        self.assertEqual(all_tries((rows, (0,))), found)

    def test_in_their_order(self):
        self.told((("in", 1),), ((0,), (1,)))
        self.told((("in", 2),), ((0,), (1,), (2,), (3,)))
        self.told((("in", 2), ("in", 1)), ((0, 0), (1, 0), (2, 0), (3, 0), (0, 1), (1, 1), (2, 1), (3, 1)))
        self.told(
            (("in", 1), ("num", 64, 9), ("in", 2), ("not", 2, 2)),
            ((0, 0), (1, 0), (0, 1), (1, 1), (0, 2), (1, 2), (0, 3), (1, 3)),
        )

    def test_without_ins(self):
        self.told((("num", 64, 3),), ((),))

    def test_at_8_bits(self):
        for widths in ((8,), (3, 5), (1,) * 8, (4, 1, 3), (2, 2, 2, 2)):
            rows = tuple([("in", width) for width in widths])
            found = all_tries((rows, (0,)))
            self.assertEqual(len(found), 256)
            self.assertEqual(len(set(found)), 256)
            for count, try_ in enumerate(found):
                place = 1
                total = 0
                for width, number in zip(widths, try_):
                    self.assertTrue(0 <= number < 2 ** width)
                    total += number * place
                    place *= 2 ** width
                self.assertEqual(total, count)

    def test_at_9_bits(self):
        for widths in ((9,), (8, 1), (1,) * 9, (3, 3, 3), (64,), (64, 64)):
            rows = tuple([("in", width) for width in widths])
            with self.subTest(widths=widths):
                with self.assertRaises(BitsError) as taken:
                    all_tries((rows, (0,)))
                self.assertIs(type(taken.exception), TooMany)
        with self.assertRaises(TooMany):
            all_tries(EVERY_WORD)
        self.told((("in", 1),), ((0,), (1,)))

    def test_where_none_matters_nothing_ever_changes(self):
        for seed in range(25):
            program = some_program(seed, 12, 4, 2)
            tries = all_tries(program)
            for row in range(len(program[0])):
                for bit in range(program[0][row][1]):
                    found = matter(program, row, bit, tries)
                    if found[0] != "try":
                        self.assertFalse([t for t in tries if reckoned_matters(program, row, bit, t)])


if __name__ == "__main__":
    unittest.main()
