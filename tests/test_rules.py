import itertools
import random
import statistics
import unittest
from fractions import Fraction
from math import gcd

from hall.errors import Apart, Few, HallError
from hall.rules import worth

LONG = 10 ** 60 - 1
RULES = ("mean", "middle", "pair")


def pair(value):
    value = Fraction(value)
    return (value.numerator, value.denominator)


def pair_wanted(values):
    # All neighbours, by their width and then, of like width, from the highest down.
    order = sorted(values)
    neighbours = sorted(zip(order, order[1:]), key=lambda two: (two[1] - two[0], -two[0]))
    return (neighbours[0][0] + neighbours[0][1]) / 2


def drawn(chance, size):
    return Fraction(chance.randrange(-size, size + 1), chance.randrange(1, size + 1))


class Case(unittest.TestCase):
    def ask(self, rule, values, *gap):
        # The form of what is told, and that the list stays, is asked each time.
        handed = [pair(value) for value in values]
        before = list(handed)
        try:
            told = worth(rule, handed, *[pair(one) for one in gap])
        finally:
            self.assertEqual(handed, before)
        self.assertIs(type(told), tuple)
        self.assertEqual([type(part) for part in told], [int, int])
        self.assertGreaterEqual(told[1], 1)
        self.assertEqual(gcd(told[0], told[1]), 1)
        return told

    def assert_worth(self, rule, values, wanted, *gap):
        self.assertEqual(self.ask(rule, values, *gap), pair(wanted))

    def assert_worth_in_every_order(self, rule, values, wanted, *gap):
        for order in itertools.permutations(values):
            with self.subTest(order):
                self.assert_worth(rule, order, wanted, *gap)

    def assert_refused(self, refusal, rule, values, *gap):
        with self.assertRaises(refusal) as taken:
            self.ask(rule, values, *gap)
        self.assertEqual(type(taken.exception).__bases__, (HallError,))


class Mean(Case):
    def test_of_one_mark(self):
        self.assert_worth("mean", [7], 7)
        self.assert_worth("mean", [Fraction(-7, 3)], Fraction(-7, 3))

    def test_of_several_marks(self):
        self.assert_worth_in_every_order("mean", [3, 4], Fraction(7, 2))
        self.assert_worth_in_every_order("mean", [3, 4, 8], 5)
        self.assert_worth_in_every_order("mean", [Fraction(1, 2), Fraction(1, 3), Fraction(1, 6), 0], Fraction(1, 4))
        self.assert_worth("mean", [-1, 1], 0)

    def test_the_gap_does_not_matter(self):
        for gap in ((), (0,), (1,), (LONG,)):
            self.assert_worth("mean", [0, 100], 50, *gap)

    def test_of_no_marks(self):
        self.assert_refused(Few, "mean", [])
        self.assert_refused(Few, "mean", [], 5)

    def test_drawn_ones(self):
        chance = random.Random(10)
        for length, size in itertools.product(range(1, 13), (3, 100, LONG)):
            values = [drawn(chance, size) for place in range(length)]
            self.assert_worth("mean", values, sum(values) / length)


class Middle(Case):
    def test_of_one_mark(self):
        self.assert_worth("middle", [7], 7)

    def test_of_odd_numbers(self):
        self.assert_worth_in_every_order("middle", [0, 7, 8], 7)
        self.assert_worth_in_every_order("middle", [0, 1, 2, 9, 100], 2)
        self.assert_worth_in_every_order("middle", [5, 5, 0], 5)

    def test_of_even_numbers(self):
        self.assert_worth_in_every_order("middle", [3, 4], Fraction(7, 2))
        self.assert_worth_in_every_order("middle", [0, 3, 4, 100], Fraction(7, 2))
        self.assert_worth_in_every_order("middle", [0, 4, 4, 5], 4)

    def test_the_order_is_that_of_the_fractions(self):
        self.assert_worth_in_every_order("middle", [Fraction(1, 2), Fraction(2, 5), Fraction(3, 7)], Fraction(3, 7))
        self.assert_worth_in_every_order("middle", [Fraction(-1, 2), Fraction(-2, 3), Fraction(-3, 7)], Fraction(-1, 2))
        self.assert_worth_in_every_order("middle", [Fraction(9, 10), 1, Fraction(11, 9), Fraction(10, 9)],
                                         Fraction(19, 18))

    def test_the_gap_does_not_matter(self):
        for gap in ((), (0,), (1,), (LONG,)):
            self.assert_worth("middle", [0, 100], 50, *gap)

    def test_of_no_marks(self):
        self.assert_refused(Few, "middle", [])
        self.assert_refused(Few, "middle", [], 5)

    def test_drawn_ones(self):
        chance = random.Random(101)
        for length, size in itertools.product(range(1, 13), (2, 5, 100, LONG)):
            values = [drawn(chance, size) for place in range(length)]
            self.assert_worth("middle", values, statistics.median(values))


class PairOfTwo(Case):
    def test_within_the_gap(self):
        self.assert_worth_in_every_order("pair", [3, 4], Fraction(7, 2), 2)
        self.assert_worth_in_every_order("pair", [5, 5], 5, 2)
        self.assert_worth_in_every_order("pair", [-3, -4], Fraction(-7, 2), 2)

    def test_at_the_gap(self):
        self.assert_worth_in_every_order("pair", [3, 5], 4, 2)
        self.assert_worth_in_every_order("pair", [Fraction(1, 3), Fraction(1, 2)], Fraction(5, 12), Fraction(1, 6))
        self.assert_worth_in_every_order("pair", [0, LONG], Fraction(LONG, 2), LONG)

    def test_farther_apart_than_the_gap(self):
        for order in ([3, 6], [6, 3], [-6, -3], [0, 100]):
            self.assert_refused(Apart, "pair", order, 2)
        for order in ([Fraction(1, 3), Fraction(1, 2)], [Fraction(1, 2), Fraction(1, 3)]):
            self.assert_refused(Apart, "pair", order, Fraction(1, 7))
        self.assert_refused(Apart, "pair", [0, 1], Fraction(LONG - 1, LONG))

    def test_the_gap_left_out_is_0(self):
        for gap in ((), (0,)):
            self.assert_worth("pair", [5, 5], 5, *gap)
            self.assert_refused(Apart, "pair", [5, 6], *gap)
            self.assert_refused(Apart, "pair", [6, 5], *gap)
            self.assert_refused(Apart, "pair", [0, Fraction(1, LONG)], *gap)

    def test_the_arguments_have_their_names(self):
        self.assertEqual(worth(rule="pair", marks=[(3, 1), (5, 1)], gap=(2, 1)), (4, 1))
        self.assertEqual(worth(rule="mean", marks=[(3, 1)]), (3, 1))


class PairOfMore(Case):
    def test_the_two_nearest(self):
        self.assert_worth_in_every_order("pair", [0, 1, 5], Fraction(1, 2))
        self.assert_worth_in_every_order("pair", [0, 4, 5], Fraction(9, 2))
        self.assert_worth_in_every_order("pair", [0, 10, 11, 20], Fraction(21, 2))
        self.assert_worth_in_every_order("pair", [-9, -8, 0, 10, 20], Fraction(-17, 2))

    def test_two_alike_ones_lie_0_apart(self):
        self.assert_worth_in_every_order("pair", [3, 3, 4], 3)
        self.assert_worth_in_every_order("pair", [3, 4, 4], 4)
        self.assert_worth_in_every_order("pair", [0, 0, 5, 6], 0)
        self.assert_worth_in_every_order("pair", [7, 7, 7], 7)

    def test_of_several_the_highest(self):
        self.assert_worth_in_every_order("pair", [0, 1, 2], Fraction(3, 2))
        self.assert_worth_in_every_order("pair", [0, 1, 5, 6], Fraction(11, 2))
        self.assert_worth_in_every_order("pair", [0, 1, 5, 6, 9], Fraction(11, 2))
        self.assert_worth_in_every_order("pair", [3, 3, 8, 8], 8)
        self.assert_worth_in_every_order("pair", [3, 3, 8, 8, 9], 8)
        self.assert_worth_in_every_order("pair", [-2, -1, 0], Fraction(-1, 2))

    def test_the_gap_does_not_matter(self):
        for gap in ((), (0,), (1,), (LONG,)):
            self.assert_worth("pair", [0, 40, 100], 20, *gap)

    def test_drawn_ones(self):
        chance = random.Random(1010)
        for length, size, turn in itertools.product(range(3, 13), (2, 4, 100, LONG), range(8)):
            values = [drawn(chance, size) for place in range(length)]
            self.assert_worth("pair", values, pair_wanted(values))


class Refused(Case):
    def test_no_marks(self):
        for rule, gap in itertools.product(RULES, ((), (0,), (9,))):
            self.assert_refused(Few, rule, [], *gap)

    def test_one_alone_by_pair(self):
        for gap in ((), (0,), (9,)):
            self.assert_refused(Few, "pair", [0], *gap)
            self.assert_refused(Few, "pair", [Fraction(7, 2)], *gap)


class AnyOrder(Case):
    def test_drawn_marks_shuffled_tell_the_same(self):
        chance = random.Random(110)
        for rule, length in itertools.product(RULES, range(3, 13)):
            values = [drawn(chance, 9) for place in range(length)]
            wanted = self.ask(rule, values)
            for turn in range(10):
                chance.shuffle(values)
                self.assertEqual(self.ask(rule, values), wanted)


if __name__ == "__main__":
    unittest.main()
