"""Shares: how many works come into each grade, by the bounds of the grades."""

from hall.errors import Barred
from hall.fractions import under


def ends(marks):
    # With marks falling, a last one of alike ones stands at the number of marks that are no less.
    return sorted(set([0] + [number_from(mark, marks) for mark in marks]))


def number_from(least, marks):
    return len([mark for mark in marks if not under(mark, least)])


def reach(some, bounds):
    lists = [[0]]
    for bound in bounds:
        lists.append(reached(some, lists[-1], bound))
    return lists


def reached(some, ahead, bound):
    return [end for end in some if any([is_within(end - start, bound) for start in ahead])]


def is_within(step, bound):
    # Bounds may be very great, so no step of theirs is tried one by one.
    return bound[0] <= step <= bound[1]


def cuts(marks, bounds):
    some = ends(marks)
    lists = reach(some, bounds)
    if len(marks) not in lists[-1]:
        raise Barred(lists)
    return greatest_cuts(some, bounds)


def greatest_cuts(some, bounds):
    found = [0]
    for bound, rests in zip(bounds, rests_behind(some, bounds)):
        steps = [end for end in some if is_within(end - found[-1], bound)]
        found.append(max([end for end in steps if some[-1] - end in rests]))
    return found[1:]


def rests_behind(some, bounds):
    # For each grade, how many works the grades behind it can take up among
    # them: the reach from the other side, from the last grade on.
    backward = [some[-1] - end for end in reversed(some)]
    lists = reach(backward, list(reversed(bounds)))
    return list(reversed(lists))[1:]
