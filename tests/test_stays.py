"""Points 19 and 20: which stays are let by, the looker of widths, and the stays told."""

import random
import unittest

from fewbits.asking import asked
from fewbits.rules import facts_of
from fewbits.stays import lets_by, stays, wrong_stay
from helper import (
    EVERY_WORD, all_kinds, bits_in, closed_pattern, fact_of, facts_of_width, pattern_of, some_fact, some_program,
    some_stays, trade_program, weaker_facts, wider_masks,
)

WORDS = ("cut", "nought", "sign")
NOTHING = (0, 0, 1)


def reckoned_lets_by(stay, fact, mask, width):
    word, kept = stay
    text, alike = pattern_of(fact, width)
    above = [bit for bit in bits_in(mask) if bit >= kept]
    if word == "cut":
        return above == []
    if word == "nought":
        return all(text[-1 - bit] == "0" for bit in above)
    from_top_on = range(kept - 1, width)
    alike_ones = range(width - alike, width)
    return above == [] or (kept - 1 in bits_in(mask) and all(bit in alike_ones for bit in from_top_on))


def reckoned_stay(row, fact, mask):
    if row[0] == "in":
        return ("cut", row[1])
    if mask == 0:
        return None
    for kept in range(1, row[1] + 1):
        for word in WORDS:
            if reckoned_lets_by((word, kept), fact, mask, row[1]):
                return (word, kept)


class LetsBy(unittest.TestCase):
    def told(self, stay, fact, mask, width, awaited):
        self.assertIs(lets_by(stay, fact, mask, width), awaited, (stay, fact, bin(mask), width))
        self.assertIs(lets_by(stay, fact, mask, width), awaited)

    def test_cut(self):
        for mask, awaited in ((0, True), (0x0F, True), (0x08, True), (0x10, False), (0x1F, False), (0x80, False)):
            self.told(("cut", 4), NOTHING, mask, 8, awaited)
            self.told(("cut", 4), (0xF0, 0, 4), mask, 8, awaited)
            self.told(("cut", 4), (0, 0, 8), mask, 8, awaited)
            self.told(("cut", 8), NOTHING, mask, 8, True)

    def test_nought(self):
        for noughts, mask, awaited in (
            (0xF0, 0xFF, True), (0x70, 0xFF, False), (0xE0, 0xFF, False), (0xE0, 0xEF, True), (0x10, 0x1F, True),
            (0x10, 0x3F, False), (0, 0x0F, True), (0, 0x10, False), (0x0F, 0x10, False), (0, 0, True),
        ):
            self.told(("nought", 4), (noughts, 0, 1), mask, 8, awaited)
        self.told(("nought", 4), (0, 0xF0, 4), 0x10, 8, False)
        self.told(("nought", 4), (0, 0, 8), 0x10, 8, False)
        self.told(("nought", 8), NOTHING, 0xFF, 8, True)

    def test_sign(self):
        # Bits 3 to 7 are the top bit of 4 and all above: five alike reach it, four just don't.
        self.told(("sign", 4), (0, 0, 5), 0xFF, 8, True)
        self.told(("sign", 4), (0, 0, 4), 0xFF, 8, False)
        self.told(("sign", 4), (0, 0, 6), 0x18, 8, True)
        self.told(("sign", 4), (0, 0, 8), 0xF8, 8, True)
        self.told(("sign", 4), (0, 0, 5), 0xF7, 8, False)
        self.told(("sign", 4), (0, 0, 8), 0x10, 8, False)
        self.told(("sign", 4), (0, 0, 1), 0x0F, 8, True)
        self.told(("sign", 4), (0, 0, 1), 0x07, 8, True)
        self.told(("sign", 4), (0, 0, 1), 0x01, 8, True)
        self.told(("sign", 4), (0, 0, 1), 0, 8, True)
        self.told(("sign", 8), (0, 0, 1), 0xFF, 8, True)
        self.told(("sign", 8), (0, 0, 1), 0x7F, 8, True)
        self.told(("sign", 4), (0xF0, 0, 4), 0x1F, 8, False)

    def test_width_1_and_the_row_s_own(self):
        for word in WORDS:
            for mask in (0, 1):
                self.told((word, 1), NOTHING, mask, 1, True)
            self.told((word, 64), NOTHING, 2 ** 64 - 1, 64, True)
            self.told((word, 1), NOTHING, 1, 64, True)
            self.told((word, 1), NOTHING, 3, 64, False)
        self.told(("nought", 1), (2 ** 64 - 2, 0, 63), 2 ** 64 - 1, 64, True)
        self.told(("sign", 1), (0, 0, 64), 2 ** 64 - 1, 64, True)
        self.told(("sign", 1), (0, 0, 63), 2 ** 64 - 1, 64, False)
        self.told(("sign", 1), (0, 0, 64), 2 ** 64 - 2, 64, False)
        self.told(("sign", 2), (0, 0, 63), 2 ** 64 - 2, 64, True)

    def test_few_bits(self):
        for width in (1, 2, 3, 4):
            for pattern in facts_of_width(width):
                if pattern == closed_pattern(*pattern):
                    fact = fact_of(*pattern)
                    for mask in range(2 ** width):
                        for kept in range(1, width + 1):
                            for word in WORDS:
                                awaited = reckoned_lets_by((word, kept), fact, mask, width)
                                self.told((word, kept), fact, mask, width, awaited)

    def test_any(self):
        rng = random.Random(19)
        for _ in range(1500):
            width = rng.choice((8, 33, 64))
            fact = fact_of(*some_fact(rng, width))
            mask = rng.choice((rng.randrange(2 ** width), 2 ** width - 1, 2 ** rng.randrange(width)))
            stay = (rng.choice(WORDS), rng.randint(1, width))
            self.told(stay, fact, mask, width, reckoned_lets_by(stay, fact, mask, width))


def programs():
    for seed in range(40):
        for program in (some_program(seed, 25, 1 + seed, 1 + seed % 4), trade_program(seed)):
            own = facts_of(program)
            yield program, own, asked(program, own)
            less = weaker_facts(program, seed)
            yield program, less, wider_masks(program, less, seed)


class Stays(unittest.TestCase):
    def told(self, rows, facts, masks, awaited):
        found = stays((rows, (0,)), facts, masks)
        self.assertEqual(found, awaited)
        self.assertIs(type(found), tuple)

    def test_the_least_width_of_the_first_word(self):
        row = ("not", 8, 0)
        for fact, mask, awaited in (
            (NOTHING, 0xFF, ("cut", 8)), (NOTHING, 0x0F, ("cut", 4)), (NOTHING, 0x08, ("cut", 4)), (NOTHING, 1, ("cut", 1)),
            ((0xF0, 0, 4), 0xFF, ("nought", 4)), ((0xF0, 0, 4), 0xF3, ("nought", 2)), ((0xF0, 0, 4), 0x0F, ("cut", 4)),
            ((0xFF, 0, 8), 0xFF, ("nought", 1)), ((0xFF, 0, 8), 0x80, ("nought", 1)), ((0xF0, 0, 4), 0x10, ("nought", 1)),
            ((0, 0, 5), 0xFF, ("sign", 4)), ((0, 0, 4), 0xFF, ("sign", 5)), ((0, 0, 5), 0xF0, ("sign", 5)),
            ((0, 0, 5), 0x80, ("cut", 8)), ((0, 0, 5), 0xC0, ("sign", 7)), ((0, 0xF0, 4), 0xFF, ("sign", 5)),
            ((0, 0, 8), 0xFF, ("sign", 1)), ((0, 0, 8), 0xFE, ("sign", 2)), ((0, 0, 2), 0xFF, ("sign", 7)),
            ((0, 0, 1), 0x81, ("cut", 8)), ((0x80, 0, 1), 0xFF, ("nought", 7)), ((0xE0, 0, 3), 0xFF, ("nought", 5)),
            ((0, 0xFF, 8), 0xFF, ("sign", 1)), ((0, 0xFF, 8), 0x0F, ("sign", 1)), ((0, 0, 1), 0, None),
        ):
            with self.subTest(fact=fact, mask=mask):
                self.told((("in", 8), row), (NOTHING, fact), (0xFF, mask), (("cut", 8), awaited))

    def test_ins(self):
        for mask in (0, 1, 0x0F, 0x80, 0xFF):
            self.told((("in", 8),), (NOTHING,), (mask,), (("cut", 8),))

    def test_nothing_asked(self):
        rows = (("in", 8), ("not", 8, 0), ("num", 3, 5), ("cut", 1, 1))
        self.told(rows, (NOTHING,) * 4, (0, 0, 0, 0), (("cut", 8), None, None, None))

    def test_width_1(self):
        rows = (("in", 1), ("not", 1, 0))
        for fact in (NOTHING, (1, 0, 1), (0, 1, 1)):
            self.told(rows, (NOTHING, fact), (1, 1), (("cut", 1), ("cut", 1)))

    def test_many(self):
        for program, facts, masks in programs():
            found = stays(program, facts, masks)
            self.assertTrue(all_kinds(found, (int, str, type(None))))
            self.assertEqual(found, tuple([reckoned_stay(*each) for each in zip(program[0], facts, masks)]))
            self.assertEqual(stays(program, facts, masks), found)

    def test_every_word(self):
        facts = facts_of(EVERY_WORD)
        masks = asked(EVERY_WORD, facts)
        awaited = tuple([reckoned_stay(*each) for each in zip(EVERY_WORD[0], facts, masks)])
        self.assertEqual(stays(EVERY_WORD, facts, masks), awaited)


class WrongStay(unittest.TestCase):
    PROGRAM = ((("in", 8), ("not", 8, 0), ("num", 8, 7), ("and", 8, 0, 2), ("in", 3)), (3,))
    FACTS = (NOTHING, NOTHING, (0xF8, 7, 5), (0xF8, 0, 5), NOTHING)
    MASKS = (7, 0, 0xFF, 0xFF, 0)
    GOOD = (("cut", 8), None, ("nought", 3), ("nought", 3), ("cut", 3))

    def told(self, changed, awaited):
        given = list(self.GOOD)
        for k, stay in changed.items():
            given[k] = stay
        found = wrong_stay(self.PROGRAM, self.FACTS, self.MASKS, tuple(given))
        self.assertEqual(found, awaited, changed)
        self.assertIn(type(found), (int, type(None)))

    def test_good(self):
        self.told({}, None)
        for stay in (("nought", 4), ("nought", 8), ("cut", 8), ("sign", 8), ("sign", 4)):
            self.told({2: stay}, None)
            self.told({3: stay}, None)

    def test_none_where_it_may_not_stand(self):
        for k in (0, 2, 3, 4):
            self.told({k: None}, k)

    def test_a_stay_where_none_must_stand(self):
        for stay in (("cut", 1), ("cut", 8), ("nought", 1), ("sign", 8)):
            self.told({1: stay}, 1)

    def test_ins(self):
        for stay in (("cut", 7), ("nought", 8), ("sign", 8), ("cut", 1), ("nought", 3)):
            self.told({0: stay}, 0)
        for stay in (("cut", 2), ("nought", 3), ("sign", 3), ("cut", 1)):
            self.told({4: stay}, 4)

    def test_not_let_by(self):
        for stay in (("nought", 2), ("cut", 7), ("cut", 3), ("sign", 3), ("nought", 1), ("sign", 1)):
            self.told({2: stay}, 2)
            self.told({3: stay}, 3)

    def test_the_first_row(self):
        bad = {0: ("cut", 7), 1: ("cut", 1), 2: None, 3: ("cut", 3), 4: None}
        for first in range(5):
            self.told({k: stay for k, stay in bad.items() if k >= first}, first)

    def test_stays_that_are_let_by(self):
        for k, (program, facts, masks) in enumerate(programs()):
            self.assertIsNone(wrong_stay(program, facts, masks, stays(program, facts, masks)))
            wider = some_stays(program, facts, masks, k)
            self.assertIsNone(wrong_stay(program, facts, masks, wider))

    def test_a_width_less_than_the_told_one(self):
        for program, facts, masks in programs():
            found = stays(program, facts, masks)
            for k, stay in enumerate(found):
                if stay is not None and stay[1] > 1:
                    for word in WORDS:
                        given = found[:k] + ((word, stay[1] - 1),) + found[k + 1:]
                        self.assertEqual(wrong_stay(program, facts, masks, given), k)


if __name__ == "__main__":
    unittest.main()
