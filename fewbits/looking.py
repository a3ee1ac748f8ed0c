"""The looker of programs: it lets a program by, or refuses it by its first bad row."""

from fewbits.bits import full
from fewbits.errors import NoFit, NoNumber, NoRow, NoWidth
from fewbits.rows import COMPARES, SHIFTS, WIDENINGS, of_operands, operands


def widths_fit(row, widths):
    word = row[0]
    width = row[1]
    if word in COMPARES:
        return width == 1 and widths[0] == widths[1]
    if word == "pick":
        return widths == (1, width, width)
    if word == "cut":
        return widths[0] >= width
    if word in WIDENINGS:
        return widths[0] <= width
    return all([each == width for each in widths])


def number_fits(row):
    if row[0] == "num":
        return row[2] <= full(row[1])
    if row[0] in SHIFTS:
        return row[3] <= 63
    return True


# The rows ahead are let by, so their widths may be asked for.
def look_at_row(rows, k):
    row = rows[k]
    if row[1] < 1 or row[1] > 64:
        raise NoWidth(k)
    if any([operand >= k for operand in operands(row)]):
        raise NoRow(k)
    widths = tuple([ahead[1] for ahead in of_operands(row, rows)])
    if not widths_fit(row, widths):
        raise NoFit(k)
    if not number_fits(row):
        raise NoNumber(k)


def look(program):
    rows, outs = program
    for k in range(len(rows)):
        look_at_row(rows, k)
    if any([out >= len(rows) for out in outs]):
        raise NoRow(len(rows))
    return True
