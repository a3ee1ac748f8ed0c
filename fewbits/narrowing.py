"""Programs made anew by the widths in which their numbers stay."""

from fewbits.asking import asked
from fewbits.bits import full
from fewbits.rows import COMPARES, WIDENINGS, operands, with_operands, width_of
from fewbits.rules import facts_of
from fewbits.stays import least_stays
from fewbits.trading import traded


# The rows made so far, and of each old row come upon, the number of the one that keeps its number.
class Maker:
    def __init__(self, program, stays):
        self.program = program
        self.stays = stays
        self.rows = []
        self.places = []
        self.once = {}

    def make(self, row):
        self.rows.append(row)
        return len(self.rows) - 1

    def make_once(self, row):
        if row not in self.once:
            self.once[row] = self.make(row)
        return self.once[row]

    def fetch(self, k, width):
        stay = self.stays[k]
        if stay is None:
            return self.make_once(("num", width, 0))
        word, kept = stay
        if kept == width:
            return self.places[k]
        if kept > width:
            return self.make_once(("cut", width, self.places[k]))
        return self.make_once(("sign" if word == "sign" else "wide", width, self.places[k]))


def make_shift(maker, row, width):
    wider = min(row[1], width + row[3])
    fetched = maker.fetch(row[2], wider)
    made = maker.make((row[0], wider, fetched, row[3]))
    if wider > width:
        return maker.make_once(("cut", width, made))
    return made


def make_widening(maker, row, width):
    old = width_of(maker.program, row[2])
    if width <= old:
        return maker.fetch(row[2], width)
    return maker.make_once((row[0], width, maker.fetch(row[2], old)))


# The width at which two numbers that are kept so compare as the old ones do.
def compare_width(word, one, other, old):
    greater = max(one[1], other[1])
    signs = (one[0], other[0]).count("sign")
    if signs == 1:
        return old
    # Without a sign, under needs a top bit that is a nought.
    if signs == 0 and word == "under":
        return min(old, greater + 1)
    return greater


def make_compare(maker, row):
    one, other = operands(row)
    old = width_of(maker.program, one)
    width = compare_width(row[0], maker.stays[one], maker.stays[other], old)
    fetched = tuple([maker.fetch(k, width) for k in (one, other)])
    return maker.make((row[0], 1) + fetched)


def make_work(maker, row, width):
    fetched = [maker.fetch(k, width) for k in operands(row)]
    return maker.make(with_operands((row[0], width) + row[2:], tuple(fetched)))


def make_pick(maker, row, width):
    choice = maker.fetch(row[2], 1)
    sides = tuple([maker.fetch(k, width) for k in row[3:]])
    return maker.make(("pick", width, choice) + sides)


# The number of the row that keeps the old row's number, in so many bits.
def make_row(maker, row, width):
    word = row[0]
    if word == "in":
        return maker.make(row)
    if word == "num":
        return maker.make(("num", width, row[2] & full(width)))
    if word in ("right", "slide"):
        return make_shift(maker, row, width)
    if word == "cut":
        return maker.fetch(row[2], width)
    if word in WIDENINGS:
        return make_widening(maker, row, width)
    if word in COMPARES:
        return make_compare(maker, row)
    if word == "pick":
        return make_pick(maker, row, width)
    return make_work(maker, row, width)


def made_by(program, facts, masks, stays):
    maker = Maker(program, stays)
    for row, stay in zip(program[0], stays):
        place = None if stay is None else make_row(maker, row, stay[1])
        maker.places.append(place)
    outs = tuple([maker.fetch(out, width_of(program, out)) for out in program[1]])
    return (tuple(maker.rows), outs)


def narrowed(program):
    facts = facts_of(program)
    masks = asked(program, facts)
    found = least_stays(program, facts, masks)
    return (made_by(program, facts, masks, found), found)


def lean(program):
    return narrowed(traded(program)[0])[0]
