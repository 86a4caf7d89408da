import itertools
import random
import unittest
from fractions import Fraction
from math import gcd

from hall.errors import HallError, NoScale
from hall.scales import Scale

LONG = 10 ** 60 - 1
BENT = [(0, 10), (4, 12), (6, 12), (10, 40)]


def pair(value):
    value = Fraction(value)
    return (value.numerator, value.denominator)


def points_of(values):
    return [(pair(x), pair(y)) for x, y in values]


def wanted(values, x):
    if x <= values[0][0]:
        return values[0][1]
    if x >= values[-1][0]:
        return values[-1][1]
    place = max([place for place, point in enumerate(values) if point[0] <= x])
    (a, b), (c, d) = values[place], values[place + 1]
    return b + Fraction(x - a) * Fraction(d - b) / Fraction(c - a)


def drawn(chance, size):
    return Fraction(chance.randrange(-size, size + 1), chance.randrange(1, size + 1))


def drawn_values(chance, number, size):
    xs = set()
    while len(xs) < number:
        xs.add(drawn(chance, size))
    return list(zip(sorted(xs), sorted([drawn(chance, size) for place in range(number)])))


class Case(unittest.TestCase):
    def ask(self, scale, x):
        told = scale.scaled(pair(x))
        self.assertIs(type(told), tuple)
        self.assertEqual([type(part) for part in told], [int, int])
        self.assertGreaterEqual(told[1], 1)
        self.assertEqual(gcd(told[0], told[1]), 1)
        return told

    def assert_scaled(self, values, x, y):
        self.assertEqual(self.ask(Scale(points_of(values)), x), pair(y))

    def assert_refused(self, values):
        handed = points_of(values)
        with self.assertRaises(NoScale) as taken:
            Scale(handed)
        self.assertEqual(type(taken.exception).__bases__, (HallError,))
        self.assertEqual(handed, points_of(values))


class Scaled(Case):
    def test_each_point(self):
        for x, y in BENT:
            self.assert_scaled(BENT, x, y)

    def test_between_two_points(self):
        self.assert_scaled(BENT, 1, Fraction(21, 2))
        self.assert_scaled(BENT, Fraction(1, 3), Fraction(61, 6))
        self.assert_scaled(BENT, 7, 19)
        self.assert_scaled(BENT, Fraction(29, 3), Fraction(113, 3))

    def test_a_level_piece(self):
        for x in (4, Fraction(9, 2), 5, 6):
            self.assert_scaled(BENT, x, 12)

    def test_nothing_but_level_pieces(self):
        level = [(0, 3), (1, 3), (2, 3)]
        for x in (-5, 0, Fraction(1, 2), 1, Fraction(3, 2), 2, 5):
            self.assert_scaled(level, x, 3)

    def test_below_the_first(self):
        for x in (Fraction(-1, 100), -1, -LONG):
            self.assert_scaled(BENT, x, 10)
        self.assert_scaled([(5, 50), (6, 60)], 0, 50)

    def test_above_the_last(self):
        for x in (Fraction(1001, 100), 11, LONG):
            self.assert_scaled(BENT, x, 40)
        self.assert_scaled([(5, 50), (6, 60)], 7, 60)

    def test_two_points(self):
        two = [(-1, -2), (1, 3)]
        for x, y in ((-2, -2), (-1, -2), (0, Fraction(1, 2)), (Fraction(1, 5), 1), (1, 3), (2, 3)):
            self.assert_scaled(two, x, y)

    def test_points_with_parts(self):
        two = [(Fraction(1, 3), Fraction(1, 7)), (Fraction(1, 2), Fraction(2, 7))]
        self.assert_scaled(two, Fraction(5, 12), Fraction(3, 14))
        self.assert_scaled(two, Fraction(1, 3), Fraction(1, 7))
        self.assert_scaled(two, Fraction(1, 2), Fraction(2, 7))

    def test_drawn_ones(self):
        chance = random.Random(11)
        for number, size in itertools.product((2, 3, 5, 12), (9, 100, LONG)):
            values = drawn_values(chance, number, size)
            scale = Scale(points_of(values))
            halves = [(one[0] + other[0]) / 2 for one, other in zip(values, values[1:])]
            for x in [drawn(chance, size) for turn in range(30)] + [x for x, y in values] + halves:
                self.assertEqual(self.ask(scale, x), pair(wanted(values, x)))

    def test_no_scale_lifts_one_over_another(self):
        chance = random.Random(3)
        for number in (2, 3, 5, 12):
            scale = Scale(points_of(drawn_values(chance, number, 9)))
            told = [Fraction(*self.ask(scale, x)) for x in sorted([drawn(chance, 12) for turn in range(80)])]
            self.assertEqual(told, sorted(told))


class Refused(Case):
    def test_fewer_than_two_points(self):
        self.assert_refused([])
        self.assert_refused([(0, 0)])

    def test_an_x_as_the_one_ahead(self):
        self.assert_refused([(1, 0), (1, 5)])
        self.assert_refused([(1, 5), (1, 5)])
        self.assert_refused([(0, 0), (1, 1), (1, 2)])
        self.assert_refused([(0, 0), (0, 1), (1, 2)])
        self.assert_refused([(Fraction(1, 3), 0), (Fraction(1, 3), 1)])

    def test_an_x_less_than_the_one_ahead(self):
        self.assert_refused([(1, 0), (0, 5)])
        self.assert_refused([(0, 0), (2, 1), (1, 2)])
        self.assert_refused([(0, 0), (-1, 1), (1, 2)])
        self.assert_refused([(Fraction(1, 2), 0), (Fraction(3, 7), 1)])

    def test_a_y_less_than_the_one_ahead(self):
        self.assert_refused([(0, 1), (1, 0)])
        self.assert_refused([(0, 0), (1, 2), (2, 1)])
        self.assert_refused([(0, 0), (1, -1), (2, 1)])
        self.assert_refused([(0, Fraction(1, 2)), (1, Fraction(3, 7))])
        self.assert_refused([(0, 0), (1, Fraction(-1, LONG))])

    def test_both_less_than_the_one_ahead(self):
        self.assert_refused([(1, 1), (0, 0)])
        self.assert_refused(BENT[::-1])

    def test_points_in_every_other_order(self):
        for order in itertools.permutations(BENT):
            if list(order) != BENT:
                self.assert_refused(order)

    def test_a_near_miss_of_a_refusal(self):
        self.assert_scaled([(0, 0), (Fraction(1, LONG), 1)], Fraction(1, LONG), 1)
        self.assert_scaled([(Fraction(3, 7), 5), (Fraction(1, 2), 5)], Fraction(4, 9), 5)


class Kept(Case):
    def test_points_changed_afterwards_change_nothing(self):
        handed = points_of(BENT)
        scale = Scale(handed)
        before = [self.ask(scale, x) for x in range(-1, 12)]
        handed[0] = ((0, 1), (0, 1))
        handed.append(((20, 1), (99, 1)))
        self.assertEqual([self.ask(scale, x) for x in range(-1, 12)], before)
        handed.clear()
        self.assertEqual([self.ask(scale, x) for x in range(-1, 12)], before)

    def test_the_points_handed_in_stay(self):
        handed = points_of(BENT)
        scale = Scale(handed)
        self.ask(scale, 5)
        self.assertEqual(handed, points_of(BENT))

    def test_scales_know_nothing_of_one_another(self):
        one, other = Scale(points_of(BENT)), Scale(points_of([(0, 0), (10, 10)]))
        self.assertEqual((self.ask(one, 5), self.ask(other, 5)), ((12, 1), (5, 1)))


if __name__ == "__main__":
    unittest.main()
