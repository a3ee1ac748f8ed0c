"""In how few bits a row's number may stay, and the looker of widths."""

WORDS = ("cut", "nought", "sign")


def lets_by(stay, fact, mask, width):
    word, kept = stay
    above = mask >> kept
    if above == 0:
        return True
    if word == "nought":
        return above & ~(fact[0] >> kept) == 0
    # The top bit of what is kept counts among the alike ones.
    return word == "sign" and (mask >> (kept - 1)) & 1 == 1 and width - kept + 1 <= fact[2]


# Each word lets the row's own width by, so there is a least one.
def least_width(word, fact, mask, width):
    return min([kept for kept in range(1, width + 1) if lets_by((word, kept), fact, mask, width)])


def least_stay(fact, mask, width):
    widths = [least_width(word, fact, mask, width) for word in WORDS]
    kept = min(widths)
    return (WORDS[widths.index(kept)], kept)


def row_stay(row, fact, mask):
    if row[0] == "in":
        return ("cut", row[1])
    if mask == 0:
        return None
    return least_stay(fact, mask, row[1])


# What stays tells, under a name that stands beside a parameter called stays.
def least_stays(program, facts, masks):
    return tuple([row_stay(row, fact, mask) for row, fact, mask in zip(program[0], facts, masks)])


def stays(program, facts, masks):
    return least_stays(program, facts, masks)


def is_right(row, fact, mask, stay):
    if row[0] == "in":
        return stay == ("cut", row[1])
    if mask == 0 or stay is None:
        return mask == 0 and stay is None
    return lets_by(stay, fact, mask, row[1])


def wrong_stay(program, facts, masks, stays):
    for k, row in enumerate(program[0]):
        if not is_right(row, facts[k], masks[k], stays[k]):
            return k
    return None
