"""Fractions: tuples (top, bottom) in lowest terms, the bottom from 1 on."""

from hall.errors import NoFraction


def divisor(one, other):
    # The greatest number that divides both; 0 only where both are 0.
    while other != 0:
        rest = one % other
        one = other
        other = rest
    return abs(one)


def fraction(top, bottom):
    if bottom == 0:
        raise NoFraction("the bottom of a fraction is not 0")
    common = divisor(top, bottom)
    if bottom < 0:
        common = -common
    return (top // common, bottom // common)


def plus(one, other):
    return fraction(one[0] * other[1] + other[0] * one[1], one[1] * other[1])


def minus(one, other):
    return fraction(one[0] * other[1] - other[0] * one[1], one[1] * other[1])


def times(one, other):
    return fraction(one[0] * other[0], one[1] * other[1])


def over(one, other):
    # A quotient by 0 has the bottom 0 here, so fraction refuses it.
    return fraction(one[0] * other[1], one[1] * other[0])


def under(one, other):
    # Bottoms are above 0, so crossing them over keeps the order.
    return one[0] * other[1] < other[0] * one[1]


def total(some):
    reached = (0, 1)
    for part in some:
        reached = plus(reached, part)
    return reached


def mean(some):
    # Of none this is a quotient by 0, and refused as one.
    return over(total(some), (len(some), 1))


def rising(some):
    # Fractions are tuples, which Python would sort by their tops.
    order = []
    for part in some:
        place = len([other for other in order if not under(part, other)])
        order.insert(place, part)
    return order
