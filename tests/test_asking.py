"""Points 15 and 16, and 3 (b), (c): asked bits, the looker of asked bits, and the way of a bit."""

import itertools
import random
import unittest

from fewbits.asking import asked, way, wrong_mask
from fewbits.rules import facts_of
from fewbits.runs import of_outs, run, turned
from helper import (
    EVERY_WORD, all_kinds, needs_in, reckoned_outs, reckoned_run, row_operands, some_inputs, some_program, trade_program,
    weaker_facts, wider_masks,
)


def reckoned_asked(program, facts):
    """All bits that are come upon from the outs' bits, need by need of single bits."""
    rows, outs = program
    found = set()
    coming = [(out, bit) for out in outs for bit in range(rows[out][1])]
    while coming:
        step = coming.pop()
        if step not in found:
            found.add(step)
            for a, mask in needs_in(program, facts, step[0], 2 ** step[1]):
                coming.extend([(a, bit) for bit in range(rows[a][1]) if mask & 2 ** bit])
    return tuple([sum(2 ** bit for row, bit in found if row == k) for k in range(len(rows))])


def reckoned_wrong(program, facts, masks):
    rows, outs = program
    for k in range(len(rows)):
        for a, mask in needs_in(program, facts, k, masks[k]):
            if mask & ~masks[a]:
                return k
    for out in outs:
        if masks[out] != 2 ** rows[out][1] - 1:
            return len(rows)
    return None


def programs():
    """Programs, each with facts that are let by."""
    for seed in range(30):
        for program in (some_program(seed, 25, 1 + seed, seed % 5), trade_program(seed)):
            yield program, facts_of(program)
            yield program, weaker_facts(program, seed)


class Asked(unittest.TestCase):
    def told(self, program, awaited):
        self.assertEqual(asked(program, facts_of(program)), awaited)

    def test_from_the_outs_backward(self):
        self.told(((("in", 8), ("cut", 4, 0), ("wide", 8, 1)), (2,)), (0x0F, 0x0F, 0xFF))
        self.told(((("in", 8), ("num", 8, 0x3C), ("and", 8, 0, 1)), (2,)), (0x3C, 0xFF, 0xFF))
        self.told(((("in", 8), ("num", 8, 0x3C), ("and", 8, 1, 0)), (2,)), (0x3C, 0xFF, 0xFF))
        self.told(((("in", 8), ("in", 8), ("add", 8, 0, 1), ("cut", 3, 2)), (3,)), (7, 7, 7, 7))
        self.told(((("in", 8), ("right", 8, 0, 5), ("not", 8, 1), ("cut", 2, 2)), (3,)), (0x60, 3, 3, 3))

    def test_an_out_that_is_an_operand(self):
        program = ((("in", 8), ("not", 8, 0), ("cut", 1, 1)), (1, 2))
        self.told(program, (0xFF, 0xFF, 1))
        self.told(((("in", 8), ("cut", 1, 0)), (0,)), (0xFF, 0))
        self.told(((("in", 8), ("cut", 1, 0)), (1, 0, 1)), (0xFF, 1))

    def test_an_operand_twice(self):
        self.told(((("in", 4), ("xor", 4, 0, 0), ("cut", 2, 1)), (2,)), (3, 3, 3))
        self.told(((("in", 1), ("pick", 1, 0, 0, 0)), (1,)), (1, 1))
        self.told(((("in", 4), ("left", 4, 0, 3), ("right", 4, 0, 3), ("xor", 4, 1, 2)), (3,)), (9, 15, 15, 15))

    def test_nothing_asked(self):
        self.told(((("in", 4), ("in", 4), ("mul", 4, 0, 1), ("num", 4, 1), ("not", 4, 0)), (4,)), (15, 0, 0, 0, 15))

    def test_many(self):
        for program, facts in programs():
            found = asked(program, facts)
            self.assertIs(type(found), tuple)
            self.assertTrue(all_kinds(found, (int,)))
            self.assertEqual(found, reckoned_asked(program, facts))
            self.assertEqual(asked(program, facts), found)
        self.assertEqual(asked(EVERY_WORD, facts_of(EVERY_WORD)), reckoned_asked(EVERY_WORD, facts_of(EVERY_WORD)))


class WrongMask(unittest.TestCase):
    def test_by_hand(self):
        program = ((("in", 8), ("cut", 4, 0), ("not", 4, 1)), (2,))
        facts = facts_of(program)
        for masks, awaited in (
            ((15, 15, 15), None), ((255, 15, 15), None), ((31, 15, 15), None), ((7, 15, 15), 1), ((15, 7, 15), 2),
            ((7, 7, 15), 2), ((7, 7, 7), 3), ((15, 15, 7), 3), ((0, 0, 0), 3), ((0, 15, 7), 1), ((15, 14, 7), 2),
            ((15, 15, 14), 3), ((15, 0, 15), 2), ((0, 0, 15), 2), ((255, 15, 0), 3),
        ):
            with self.subTest(masks=masks):
                found = wrong_mask(program, facts, masks)
                self.assertEqual(found, awaited)
                self.assertIn(type(found), (int, type(None)))

    def test_operand_by_operand(self):
        program = ((("in", 4), ("in", 4), ("in", 1), ("pick", 4, 2, 0, 1)), (3,))
        facts = facts_of(program)
        self.assertIsNone(wrong_mask(program, facts, (15, 15, 1, 15)))
        for masks in ((7, 15, 1, 15), (15, 7, 1, 15), (15, 15, 0, 15)):
            self.assertEqual(wrong_mask(program, facts, masks), 3)

    def test_an_out_among_several(self):
        program = ((("in", 4), ("in", 4)), (1, 0))
        facts = facts_of(program)
        self.assertIsNone(wrong_mask(program, facts, (15, 15)))
        self.assertEqual(wrong_mask(program, facts, (14, 15)), 2)
        self.assertEqual(wrong_mask(program, facts, (15, 7)), 2)

    def test_greater_ones_that_are_let_by(self):
        for program, facts in programs():
            own = asked(program, facts)
            self.assertIsNone(wrong_mask(program, facts, own))
            self.assertIsNone(wrong_mask(program, facts, tuple([2 ** row[1] - 1 for row in program[0]])))
            for seed in range(3):
                wider = wider_masks(program, facts, seed)
                self.assertIsNone(wrong_mask(program, facts, wider))
                self.assertEqual([one & ~other for one, other in zip(own, wider)], [0] * len(own))

    def test_a_bit_left_out(self):
        rng = random.Random(16)
        for program, facts in programs():
            own = asked(program, facts)
            for _ in range(6):
                k = rng.randrange(len(own))
                masks = list(own)
                masks[k] &= ~2 ** rng.randrange(program[0][k][1])
                if masks[k] != own[k]:
                    found = wrong_mask(program, facts, tuple(masks))
                    self.assertIsNotNone(found)
                    self.assertEqual(found, reckoned_wrong(program, facts, masks))
                    self.assertIs(type(found), int)

    def test_any_masks(self):
        rng = random.Random(17)
        for program, facts in programs():
            masks = tuple([rng.choice((0, 2 ** row[1] - 1, rng.randrange(2 ** row[1]))) for row in program[0]])
            found = wrong_mask(program, facts, masks)
            self.assertEqual(found, reckoned_wrong(program, facts, masks))
            self.assertEqual(wrong_mask(program, facts, masks), found)


class Least(unittest.TestCase):
    """Point 3 (c): no bit is in the asked ones that isn't in each tuple that is let by."""

    def test_all_tuples_of_small_programs(self):
        for rows, outs in (
            ((("in", 2), ("num", 2, 1), ("and", 2, 0, 1)), (2,)), ((("in", 2), ("in", 2), ("mul", 2, 0, 1)), (2,)),
            ((("in", 2), ("left", 2, 0, 1), ("add", 2, 0, 1)), (2,)), ((("in", 1), ("in", 2), ("pick", 2, 0, 1, 1)), (2, 0)),
            ((("in", 2), ("slide", 2, 0, 1), ("cut", 1, 1)), (2,)), ((("in", 2), ("in", 2), ("under", 1, 0, 1)), (0,)),
        ):
            program = (rows, outs)
            facts = facts_of(program)
            tuples = itertools.product(*[range(2 ** row[1]) for row in rows])
            good = [masks for masks in tuples if wrong_mask(program, facts, masks) is None]
            shared = good[0]
            for masks in good:
                shared = tuple([one & other for one, other in zip(shared, masks)])
            self.assertEqual(asked(program, facts), shared)


class Way(unittest.TestCase):
    def is_way(self, program, facts, steps, start):
        self.assertIs(type(steps), tuple)
        self.assertTrue(all_kinds(steps, (int,)))
        self.assertEqual(steps[0], start)
        self.assertIn(steps[-1][0], program[1])
        self.assertTrue(steps[-1][1] < program[0][steps[-1][0]][1])
        for one, other in zip(steps, steps[1:]):
            needs = needs_in(program, facts, other[0], 2 ** other[1])
            self.assertTrue([mask for a, mask in needs if a == one[0] and mask & 2 ** one[1]], (steps, one))
            self.assertIn(one[0], row_operands(program[0][other[0]]))

    def all_ways(self, program, facts):
        masks = asked(program, facts)
        for k, row in enumerate(program[0]):
            for bit in range(row[1]):
                steps = way(program, facts, k, bit)
                if masks[k] & 2 ** bit:
                    self.is_way(program, facts, steps, (k, bit))
                else:
                    self.assertEqual(steps, ())
                    self.assertIs(type(steps), tuple)
                self.assertEqual(way(program, facts, k, bit), steps)

    def test_by_hand(self):
        program = ((("in", 8), ("right", 8, 0, 3), ("cut", 2, 1)), (2,))
        facts = facts_of(program)
        self.assertEqual(way(program, facts, 0, 4), ((0, 4), (1, 1), (2, 1)))
        self.assertEqual(way(program, facts, 1, 0), ((1, 0), (2, 0)))
        self.assertEqual(way(program, facts, 2, 1), ((2, 1),))
        self.assertEqual(way(program, facts, 0, 2), ())
        self.assertEqual(way(program, facts, 0, 5), ())
        self.assertEqual(way(program, facts, 1, 7), ())

    def test_past_a_row_that_leads_nowhere(self):
        # Row 1 has row 0 as an operand, but nothing is asked of it; row 2 asks for other bits.
        program = ((("in", 4), ("not", 4, 0), ("cut", 1, 0), ("left", 4, 0, 1), ("cut", 3, 3)), (2, 4))
        facts = facts_of(program)
        self.assertEqual(way(program, facts, 0, 1), ((0, 1), (3, 2), (4, 2)))
        self.assertEqual(way(program, facts, 0, 0)[0], (0, 0))
        self.assertEqual(way(program, facts, 0, 2), ())
        self.assertEqual(way(program, facts, 1, 0), ())
        self.all_ways(program, facts)

    def test_an_operand_twice(self):
        program = ((("in", 1), ("pick", 1, 0, 0, 0), ("xor", 1, 1, 1)), (2,))
        self.assertEqual(way(program, facts_of(program), 0, 0), ((0, 0), (1, 0), (2, 0)))

    def test_each_bit(self):
        for program, facts in programs():
            if sum(row[1] for row in program[0]) < 250:
                self.all_ways(program, facts)
        self.all_ways(EVERY_WORD, facts_of(EVERY_WORD))

    def test_wide_numbers(self):
        for seed in range(12):
            program = some_program(seed, 40, 64)
            facts = facts_of(program)
            masks = asked(program, facts)
            for k, row in enumerate(program[0]):
                for bit in (0, row[1] // 2, row[1] - 1):
                    steps = way(program, facts, k, bit)
                    self.assertEqual(steps != (), bool(masks[k] & 2 ** bit))
                    if steps:
                        self.is_way(program, facts, steps, (k, bit))


class TurnedBits(unittest.TestCase):
    """Point 3 (b)."""

    def stays(self, program, masks, seed):
        rng = random.Random(seed)
        for inputs in some_inputs(program, seed, 6):
            plain = run(program, inputs)
            for share in (1, 0.5, 0.1):
                turns = [2 ** row[1] - 1 & ~mask for row, mask in zip(program[0], masks)]
                turns = tuple([turn & rng.getrandbits(64) if rng.random() < share else 0 for turn in turns])
                found = turned(program, inputs, turns)
                self.assertEqual(found, reckoned_run(program, inputs, turns))
                for one, other, mask in zip(plain, found, masks):
                    self.assertEqual(one & mask, other & mask)
                self.assertEqual(of_outs(program, found), reckoned_outs(program, inputs))

    def test_bits_that_are_not_asked(self):
        for k, (program, facts) in enumerate(programs()):
            self.stays(program, asked(program, facts), k)
            self.stays(program, wider_masks(program, facts, k), k)

    def test_all_of_them_at_once(self):
        for program, facts in programs():
            masks = asked(program, facts)
            turns = tuple([2 ** row[1] - 1 & ~mask for row, mask in zip(program[0], masks)])
            for inputs in some_inputs(program, 1, 6):
                found = turned(program, inputs, turns)
                self.assertEqual(of_outs(program, found), reckoned_outs(program, inputs))


if __name__ == "__main__":
    unittest.main()
