import itertools
import random
import unittest
from fractions import Fraction
from math import gcd

from hall.errors import HallError, NoFraction
from hall.fractions import fraction, mean, minus, over, plus, rising, times, total, under

LONG = 10 ** 60 - 1


def exact(value):
    return Fraction(value[0], value[1])


def drawn_whole(chance):
    size = 10 ** chance.choice((1, 2, 9, 30, 60))
    return chance.randrange(-size + 1, size)


def drawn_fraction(chance):
    bottom = 0
    while bottom == 0:
        bottom = drawn_whole(chance)
    value = Fraction(drawn_whole(chance), bottom)
    return (value.numerator, value.denominator)


class Case(unittest.TestCase):
    def assert_is_fraction(self, told, wanted):
        self.assertIs(type(told), tuple)
        self.assertEqual([type(part) for part in told], [int, int])
        self.assertGreaterEqual(told[1], 1)
        self.assertEqual(gcd(told[0], told[1]), 1)
        self.assertEqual(told, (wanted.numerator, wanted.denominator))


class Made(Case):
    def test_small_ones_of_any_sign(self):
        for top, bottom in itertools.product(range(-13, 14), repeat=2):
            if bottom != 0:
                with self.subTest(top=top, bottom=bottom):
                    self.assert_is_fraction(fraction(top, bottom), Fraction(top, bottom))

    def test_written_ones(self):
        self.assertEqual(fraction(6, 4), (3, 2))
        self.assertEqual(fraction(-6, 4), (-3, 2))
        self.assertEqual(fraction(6, -4), (-3, 2))
        self.assertEqual(fraction(-6, -4), (3, 2))
        self.assertEqual(fraction(0, -7), (0, 1))
        self.assertEqual(fraction(0, 7), (0, 1))
        self.assertEqual(fraction(7, 7), (1, 1))

    def test_sixty_figures(self):
        chance = random.Random(60)
        for top, bottom in ((LONG, LONG), (LONG, 1), (1, -LONG), (-LONG, 3), (LONG - 1, LONG), (0, LONG)):
            self.assert_is_fraction(fraction(top, bottom), Fraction(top, bottom))
        for turn in range(300):
            top, bottom = drawn_whole(chance), drawn_whole(chance) or 1
            self.assert_is_fraction(fraction(top, bottom), Fraction(top, bottom))
            common = chance.randrange(1, 10 ** 20)
            self.assert_is_fraction(fraction(top * common, -bottom * common), Fraction(-top, bottom))

    def test_a_bottom_of_0_is_refused(self):
        for top in (0, 1, -1, 12, LONG, -LONG):
            with self.subTest(top), self.assertRaises(NoFraction):
                fraction(top, 0)

    def test_the_refusal_is_a_hall_error(self):
        with self.assertRaises(HallError):
            fraction(1, 0)


class Reckoned(Case):
    def assert_all(self, one, other):
        self.assert_is_fraction(plus(one, other), exact(one) + exact(other))
        self.assert_is_fraction(minus(one, other), exact(one) - exact(other))
        self.assert_is_fraction(times(one, other), exact(one) * exact(other))
        self.assertIs(under(one, other), exact(one) < exact(other))
        if other[0] != 0:
            self.assert_is_fraction(over(one, other), exact(one) / exact(other))

    def test_small_ones(self):
        some = sorted({fraction(top, bottom) for top in range(-4, 5) for bottom in range(1, 5)})
        for one, other in itertools.product(some, repeat=2):
            with self.subTest(one=one, other=other):
                self.assert_all(one, other)

    def test_long_ones(self):
        chance = random.Random(4)
        for turn in range(400):
            self.assert_all(drawn_fraction(chance), drawn_fraction(chance))

    def test_what_is_told_may_be_handed_in_again(self):
        chance = random.Random(8)
        reached = (1, 1)
        for turn in range(12):
            reached = plus(times(reached, drawn_fraction(chance)), drawn_fraction(chance))
        self.assert_all(reached, drawn_fraction(chance))
        self.assertEqual(minus(plus(reached, (1, 3)), (1, 3)), reached)

    def test_a_quotient_by_0_is_refused(self):
        for one in ((0, 1), (1, 1), (-3, 7), (LONG, 2)):
            with self.subTest(one), self.assertRaises(NoFraction):
                over(one, (0, 1))

    def test_under_is_strict_and_tells_a_truth(self):
        self.assertIs(under((1, 3), (1, 2)), True)
        self.assertIs(under((1, 2), (1, 3)), False)
        self.assertIs(under((1, 2), (1, 2)), False)
        self.assertIs(under((-1, 2), (-1, 3)), True)
        self.assertIs(under((-1, 3), (-1, 2)), False)
        self.assertIs(under((0, 1), (0, 1)), False)
        self.assertIs(under((LONG - 1, LONG), (1, 1)), True)
        self.assertIs(under((LONG - 1, LONG), (LONG, LONG - 1)), True)


class Gathered(Case):
    def test_total_of_none(self):
        self.assertEqual(total([]), (0, 1))

    def test_mean_of_none_is_refused(self):
        with self.assertRaises(NoFraction):
            mean([])

    def test_written_ones(self):
        self.assertEqual(total([(1, 2), (1, 3), (1, 6)]), (1, 1))
        self.assertEqual(mean([(1, 2), (1, 3), (1, 6)]), (1, 3))
        self.assertEqual(mean([(5, 7)]), (5, 7))
        self.assertEqual(mean([(1, 1), (2, 1)]), (3, 2))
        self.assertEqual(mean([(1, 2), (-1, 2)]), (0, 1))
        self.assertEqual(mean([(-3, 1), (-4, 1)]), (-7, 2))
        self.assertEqual(mean([(2, 1), (2, 1), (5, 1)]), (3, 1))

    def test_drawn_ones(self):
        chance = random.Random(15)
        for length in range(1, 25):
            some = [drawn_fraction(chance) for place in range(length)]
            whole = sum([exact(part) for part in some])
            self.assert_is_fraction(total(some), Fraction(whole))
            self.assert_is_fraction(mean(some), Fraction(whole, length))

    def test_the_list_handed_in_stays(self):
        for some in ([], [(1, 2)], [(3, 1), (1, 2), (-5, 7)]):
            before = list(some)
            total(some)
            self.assertEqual(some, before)
            if some:
                mean(some)
                self.assertEqual(some, before)

    def test_asked_again_the_same(self):
        some = [(3, 1), (1, 2), (-5, 7)]
        self.assertEqual(total(some), total(some))
        self.assertEqual(mean(some), mean(some))


class Rising(Case):
    def test_of_none(self):
        self.assertEqual(rising([]), [])

    def test_written_ones_in_every_order(self):
        wanted = [(-1, 2), (-3, 7), (0, 1), (2, 5), (1, 2), (1, 2)]
        for order in itertools.permutations(wanted):
            handed = list(order)
            told = rising(handed)
            self.assertEqual(told, wanted)
            self.assertIsNot(told, handed)
            self.assertEqual(handed, list(order))

    def test_drawn_ones(self):
        chance = random.Random(16)
        for length in range(1, 61):
            some = [drawn_fraction(chance) for place in range(length)]
            self.assertEqual(rising(some), sorted(some, key=exact))


if __name__ == "__main__":
    unittest.main()
