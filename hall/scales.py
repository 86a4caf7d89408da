"""Scales: straight pieces from point to point that keep the order of what is scaled."""

from hall.errors import NoScale
from hall.fractions import minus, over, plus, times, under


def is_scale(points):
    return len(points) > 1 and all([climbs(left, right) for left, right in zip(points, points[1:])])


def climbs(left, right):
    return under(left[0], right[0]) and not under(right[1], left[1])


def between(left, right, x):
    part = times(minus(x, left[0]), minus(right[1], left[1]))
    return plus(left[1], over(part, minus(right[0], left[0])))


class Scale:
    def __init__(self, points):
        if not is_scale(points):
            raise NoScale("a scale has two points or more, each x above the one ahead and no y below it")
        self.points = tuple(points)

    def scaled(self, x):
        if not under(self.points[0][0], x):
            return self.points[0][1]
        for left, right in zip(self.points, self.points[1:]):
            if under(x, right[0]):
                return between(left, right, x)
        return self.points[-1][1]
