"""Borders: the least mark of each grade, and the grade of a mark by them."""

from hall.fractions import minus, rising, under


def borders(marks, counts):
    order = rising(marks)
    return [order[-count] if count > 0 else None for count in counts[:-1]]


def grade(some, mark):
    for place, border in enumerate(some):
        if border is not None and not under(mark, border):
            return place
    return len(some)


def is_near(some, width, mark):
    return any([is_just_under(border, width, mark) for border in some if border is not None])


def is_just_under(border, width, mark):
    return under(mark, border) and under(minus(border, mark), width)
