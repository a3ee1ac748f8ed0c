"""Programs read from texts."""

from fewbits.errors import NoLine
from fewbits.looking import look
from fewbits.rows import is_word, number_count

FIGURES = "0123456789"


def is_number(part):
    if len(part) < 1 or len(part) > 20:
        return False
    if part[0] == "0" and part != "0":
        return False
    return all([sign in FIGURES for sign in part])


def are_numbers(parts):
    return all([is_number(part) for part in parts])


def numbers_in(parts):
    return tuple([int(part) for part in parts])


# None where the line is no row.
def row_in(line):
    parts = line.split(" ")
    word = parts[0]
    if not is_word(word) or len(parts) != 1 + number_count(word) or not are_numbers(parts[1:]):
        return None
    return (word,) + numbers_in(parts[1:])


# None where the line tells no outs.
def outs_in(line):
    parts = line.split(" ")
    if parts[0] != "out" or len(parts) < 2 or len(parts) > 9 or not are_numbers(parts[1:]):
        return None
    return numbers_in(parts[1:])


def rows_in(lines):
    rows = []
    for k, line in enumerate(lines):
        row = row_in(line)
        if row is None:
            raise NoLine(k)
        rows.append(row)
    return tuple(rows)


def read(text):
    if not isinstance(text, str):
        raise NoLine(0)
    lines = text.split("\n")
    last = len(lines) - 1
    rows = rows_in(lines[:last])
    outs = outs_in(lines[last])
    if outs is None:
        raise NoLine(last)
    program = (rows, outs)
    look(program)
    return program
