"""Fractions: tuples (top, bottom) of whole numbers in lowest terms, bottom from 1 on."""

from doingbook.errors import NoFraction


def greatest_divisor(a, b):
    while b != 0:
        rest = a % b
        a = b
        b = rest
    return a


def fraction(top, bottom):
    if bottom == 0:
        # No refusal shows its numbers: Python refuses to write very long ones with a ValueError of its own.
        raise NoFraction("the second number is 0")
    divisor = greatest_divisor(abs(top), abs(bottom))
    if bottom < 0:
        divisor = -divisor
    return (top // divisor, bottom // divisor)


def plus(a, b):
    return fraction(a[0] * b[1] + b[0] * a[1], a[1] * b[1])


def minus(a, b):
    return fraction(a[0] * b[1] - b[0] * a[1], a[1] * b[1])


def times(a, b):
    return fraction(a[0] * b[0], a[1] * b[1])


def over(a, b):
    return fraction(a[0] * b[1], a[1] * b[0])


def before(a, b):
    # Bottoms are above 0, so multiplying by them keeps the order.
    return a[0] * b[1] < b[0] * a[1]


def common_bottom(parts):
    bottom = 1
    for part in parts:
        if bottom % part[1] != 0:
            bottom = bottom // greatest_divisor(bottom, part[1]) * part[1]
    return bottom


def tops_over(parts, bottom):
    return [part[0] * (bottom // part[1]) for part in parts]


def total(parts):
    # Summed over one bottom a long row is put into lowest terms once, not at each step.
    bottom = common_bottom(parts)
    return fraction(sum(tops_over(parts, bottom)), bottom)
