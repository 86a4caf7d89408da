"""Rules: what a work is worth by its marks."""

from hall.errors import Apart, Few
from hall.fractions import mean, minus, rising, under

NO_GAP = (0, 1)


def worth(rule, marks, gap=None):
    if len(marks) < least_number(rule):
        raise Few("the rule needs more marks than these")
    if rule == "mean":
        return mean(marks)
    if rule == "middle":
        return mean(middle(rising(marks)))
    return mean(pair(rising(marks), NO_GAP if gap is None else gap))


def least_number(rule):
    return 2 if rule == "pair" else 1


def middle(order):
    # One mark of an odd number, two of an even one.
    return order[(len(order) - 1) // 2:len(order) // 2 + 1]


def pair(order, gap):
    # The gap is held against two marks alone: with a third one they are enough.
    if len(order) == 2 and under(gap, width(order)):
        raise Apart("two marks lie farther apart than the gap")
    return nearest(order)


def nearest(order):
    best = order[:2]
    for place in range(1, len(order) - 1):
        two = order[place:place + 2]
        # Of several that lie as near, the highest counts, and it comes last.
        if not under(width(best), width(two)):
            best = two
    return best


def width(two):
    return minus(two[1], two[0])
