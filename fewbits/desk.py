"""The desk: from a program's text to the lean one's, and to a report of its widths."""

from fewbits.narrowing import lean, narrowed
from fewbits.prices import price
from fewbits.reading import read
from fewbits.trading import traded
from fewbits.writing import write


def lean_text(text):
    return write(lean(read(text)))


def stay_line(k, stay):
    if stay is None:
        return f"{k} -"
    word, width = stay
    return f"{k} {word} {width}"


def report(text):
    program = read(text)
    made, stays = narrowed(traded(program)[0])
    old = price(program)
    new = price(made)
    lines = [stay_line(k, stay) for k, stay in enumerate(stays)]
    lines.append(f"price {old} {new}")
    return "\n".join(lines)
