"""Points 25 and 26: the lean text and the report of a text."""

import unittest

from fewbits.desk import lean_text, report
from fewbits.errors import BitsError, NoFit, NoLine, NoNumber, NoRow, NoWidth
from fewbits.narrowing import lean, narrowed
from fewbits.prices import price
from fewbits.reading import read
from fewbits.runs import told
from fewbits.trading import traded
from fewbits.writing import write
from helper import EVERY_WORD, reckoned_outs, some_inputs, some_program, trade_program

# A product by 4 of which five bits are kept: it becomes a shift, and the number beside it is asked no more.
TEXT = "in 8\nnum 8 4\nmul 8 0 1\ncut 5 2\nout 3"


def programs():
    yield EVERY_WORD
    for seed in range(40):
        yield some_program(seed, 40, 1 + seed, seed % 5)
        yield trade_program(seed)


class LeanText(unittest.TestCase):
    def test_by_hand(self):
        self.assertEqual(lean_text(TEXT), "in 8\ncut 5 0\nleft 5 1 2\nout 2")
        self.assertEqual(lean_text("in 8\nout 0"), "in 8\nout 0")
        self.assertEqual(lean_text("in 8\nxor 8 0 0\nout 1"), "in 8\nnum 1 0\nwide 8 1\nout 2")

    def test_the_lean_program_s_text(self):
        for program in programs():
            text = write(program)
            found = lean_text(text)
            self.assertIs(type(found), str)
            self.assertEqual(found, write(lean(program)))
            self.assertEqual(lean_text(text), found)

    def test_it_tells_what_the_first_text_tells(self):
        """Point 26."""
        for program in programs():
            made = read(lean_text(write(program)))
            for inputs in some_inputs(program, 26, 10):
                self.assertEqual(told(made, inputs), reckoned_outs(program, inputs))

    def test_of_a_lean_text_again(self):
        for program in programs():
            once = lean_text(write(program))
            made = read(lean_text(once))
            self.assertLessEqual(price(made), price(read(once)))
            for inputs in some_inputs(program, 27, 4):
                self.assertEqual(told(made, inputs), reckoned_outs(program, inputs))


class Report(unittest.TestCase):
    def test_by_hand(self):
        self.assertEqual(report(TEXT), "0 cut 8\n1 -\n2 cut 5\n3 cut 5\nprice 64 0")
        self.assertEqual(report("in 8\nout 0"), "0 cut 8\nprice 0 0")
        self.assertEqual(
            report("in 8\nnum 8 7\nand 8 0 1\nslide 8 0 4\nout 2 3"),
            "0 cut 8\n1 nought 3\n2 nought 3\n3 sign 4\nprice 8 3",
        )

    def test_rows_are_those_of_the_traded_program(self):
        self.assertEqual(
            report("in 8\nleft 8 0 0\nnot 8 0\nadd 8 1 1\ncut 4 3\nout 4"), "0 cut 8\n1 cut 4\n2 cut 4\nprice 24 8",
        )

    def test_line_by_line(self):
        for program in programs():
            text = write(program)
            found = report(text)
            self.assertIs(type(found), str)
            lines = found.split("\n")
            changed = traded(program)[0]
            made, by = narrowed(changed)
            self.assertEqual(len(lines), len(changed[0]) + 1)
            for k, stay in enumerate(by):
                self.assertEqual(lines[k], " ".join([str(k), "-"] if stay is None else [str(k), stay[0], str(stay[1])]))
            self.assertEqual(lines[-1], "price " + str(price(program)) + " " + str(price(made)))
            self.assertEqual(report(text), found)


class Refused(unittest.TestCase):
    def refused(self, text, kind, row):
        for ask in (lean_text, report, read):
            with self.subTest(text=repr(text)[:40], ask=ask.__name__):
                with self.assertRaises(BitsError) as taken:
                    ask(text)
                self.assertIs(type(taken.exception), kind)
                self.assertEqual(taken.exception.row, row)

    def test_lines(self):
        self.refused("", NoLine, 0)
        self.refused("in 8", NoLine, 0)
        self.refused(TEXT + "\n", NoLine, 4)
        self.refused("in 8\nnone 8\nout 0", NoLine, 1)
        self.refused("in 8\nin 08\nout 0", NoLine, 1)
        self.refused("in 8\nout", NoLine, 1)

    def test_programs(self):
        self.refused("in 8\nin 0\nout 0", NoWidth, 1)
        self.refused("in 8\nnot 8 1\nout 0", NoRow, 1)
        self.refused("in 8\nnot 7 0\nout 0", NoFit, 1)
        self.refused("in 8\nnum 8 256\nout 0", NoNumber, 1)
        self.refused("in 8\nout 1", NoRow, 1)

    def test_what_is_no_text(self):
        for thing in (None, 0, True, (), ("in 8", "out 0"), ["in 8\nout 0"], b"in 8\nout 0", EVERY_WORD):
            self.refused(thing, NoLine, 0)

    def test_a_good_one_behind_a_bad_one(self):
        for _ in range(2):
            self.refused("in 8\nout", NoLine, 1)
            self.assertEqual(lean_text("in 8\nout 0"), "in 8\nout 0")


if __name__ == "__main__":
    unittest.main()
