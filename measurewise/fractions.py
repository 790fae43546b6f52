"""Fractions: tuples (above, below) of whole numbers, always shortest, below from 1 on."""

from measurewise.errors import BadNumber
from measurewise.signs import is_whole, need_whole


def common_divisor(above, below):
    """The greatest whole number that divides both, below being from 1 on."""
    greater = below
    # Above may be below nought; what is left over by a below from 1 on never is.
    lesser = above % below
    while lesser > 0:
        rest = greater % lesser
        greater = lesser
        lesser = rest
    return greater


def fraction(above, below=1):
    if not is_whole(above):
        raise BadNumber("no whole number above")
    need_whole(below, 1)
    divisor = common_divisor(above, below)
    return (above // divisor, below // divisor)


def is_fraction(thing):
    if not isinstance(thing, tuple) or len(thing) != 2:
        return False
    if not is_whole(thing[0]) or not is_whole(thing[1]) or thing[1] < 1:
        return False
    return common_divisor(thing[0], thing[1]) == 1


def sum_of(one, other):
    return fraction(one[0] * other[1] + other[0] * one[1], one[1] * other[1])


def product_of(one, other):
    return fraction(one[0] * other[0], one[1] * other[1])


def whole_power(base, exponent):
    """Base to an exponent from 0 on: base squared again and again, so that few steps are needed."""
    product = 1
    square = base
    left = exponent
    while left > 0:
        if left % 2 == 1:
            product = product * square
        left = left // 2
        if left > 0:
            square = square * square
    return product


def turned_over(one):
    """One over a fraction other than nought; a minus goes from below to above."""
    if one[0] < 0:
        return (-one[1], -one[0])
    return (one[1], one[0])


def power_of(one, exponent):
    if not is_whole(exponent):
        raise BadNumber("no whole exponent")
    if exponent >= 0:
        return (whole_power(one[0], exponent), whole_power(one[1], exponent))
    if one[0] == 0:
        raise BadNumber("nought to a power below nought")
    return power_of(turned_over(one), -exponent)


def is_less(one, other):
    return one[0] * other[1] < other[0] * one[1]


def shown_fraction(one):
    above = one[0]
    below = one[1]
    if below == 1:
        return f"{above}"
    return f"{above}:{below}"
