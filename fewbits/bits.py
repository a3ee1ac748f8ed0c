"""Masks, runs and reaches of single numbers, and the top that two numbers share."""


def full(width):
    return (1 << width) - 1


def reach(number):
    return number.bit_length()


def below(number):
    return full(reach(number))


def low_run(number):
    # Adding 1 carries through the low 1s, so just they and the 0 behind them turn.
    return reach(number ^ (number + 1)) - 1


def top_run(number, width):
    # The run ends at the highest 0, which is the highest 1 of the turned number.
    return width - reach(number ^ full(width))


def stretched(number, width, wider):
    top = 1 << (width - 1)
    if number & top == 0:
        return number
    return number | (full(wider) ^ full(width))


def shared_top(least, greatest, width):
    # Between the two, no count carries beyond the highest bit at which they differ.
    known = full(width) ^ below(least ^ greatest)
    ones = known & least
    return (known ^ ones, ones)
