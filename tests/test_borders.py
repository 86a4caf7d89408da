import itertools
import random
import unittest
from fractions import Fraction
from math import gcd

from hall.borders import borders, grade, is_near
from hall.errors import Barred
from hall.shares import cuts

LONG = 10 ** 60 - 1


def pair(value):
    if value is None:
        return None
    value = Fraction(value)
    return (value.numerator, value.denominator)


def pairs(values):
    return [pair(value) for value in values]


def grade_dealt(values, counts, value):
    # By its place among all marks, from the best on: alike ones have the best place of theirs.
    place = len([other for other in values if other > value])
    return len([count for count in counts if count <= place])


def drawn(chance, size):
    return Fraction(chance.randrange(-size, size + 1), chance.randrange(1, size + 1))


class Case(unittest.TestCase):
    def ask_borders(self, values, counts):
        marks, handed = pairs(values), list(counts)
        told = borders(marks, handed)
        self.assertEqual((marks, handed), (pairs(values), list(counts)))
        self.assertIs(type(told), list)
        self.assertEqual(len(told), len(counts) - 1)
        for border in told:
            if border is not None:
                self.assertIs(type(border), tuple)
                self.assertEqual([type(part) for part in border], [int, int])
                self.assertEqual((border[1] > 0, gcd(*border)), (True, 1))
        return told

    def ask_grade(self, some, value):
        handed = pairs(some)
        told = grade(handed, pair(value))
        self.assertEqual(handed, pairs(some))
        self.assertIs(type(told), int)
        return told

    def ask_near(self, some, width, value):
        handed = pairs(some)
        told = is_near(handed, pair(width), pair(value))
        self.assertEqual(handed, pairs(some))
        self.assertIs(type(told), bool)
        return told

    def assert_borders(self, values, counts, wanted):
        self.assertEqual(self.ask_borders(values, counts), pairs(wanted))

    def assert_grades(self, some, wanted):
        for value, number in wanted.items():
            with self.subTest(some=some, value=value):
                self.assertEqual(self.ask_grade(some, value), number)

    def assert_near(self, some, width, wanted):
        for value, told in wanted.items():
            with self.subTest(some=some, width=width, value=value):
                self.assertIs(self.ask_near(some, width, value), told)


class Borders(Case):
    def test_one_for_each_grade_but_the_last(self):
        self.assert_borders([9, 7, 5, 3], [4], [])
        self.assert_borders([9, 7, 5, 3], [1, 4], [9])
        self.assert_borders([9, 7, 5, 3], [2, 3, 4], [7, 5])
        self.assert_borders([9, 7, 5, 3], [1, 2, 3, 4], [9, 7, 5])

    def test_the_least_of_all_marks(self):
        self.assert_borders([9, 7, 5, 3], [4, 4], [3])
        self.assert_borders([9, 7, 5, 3], [2, 4, 4], [7, 3])

    def test_a_grade_without_a_mark_has_the_border_of_the_better_one(self):
        self.assert_borders([9, 7, 5], [1, 1, 1, 3], [9, 9, 9])
        self.assert_borders([9, 7, 5], [1, 2, 2, 3], [9, 7, 7])

    def test_none_where_no_mark_is_in_that_grade_or_a_better_one(self):
        self.assert_borders([9, 7, 5], [0, 3], [None])
        self.assert_borders([9, 7, 5], [0, 0, 2, 3], [None, None, 7])
        self.assert_borders([9, 7, 5], [0, 3, 3], [None, 5])

    def test_no_marks(self):
        self.assert_borders([], [0], [])
        self.assert_borders([], [0, 0, 0], [None, None])

    def test_alike_marks(self):
        self.assert_borders([5, 5, 3, 3], [2, 4], [5])
        self.assert_borders([5, 5], [2, 2], [5])

    def test_in_any_order(self):
        for order in itertools.permutations([9, 7, 7, 3, -1]):
            self.assert_borders(order, [1, 3, 4, 5], [9, 7, 3])

    def test_the_order_is_that_of_the_fractions(self):
        values = [Fraction(1, 2), Fraction(2, 5), Fraction(3, 7), Fraction(-1, 2), Fraction(-2, 3)]
        self.assert_borders(values, [1, 2, 3, 4, 5],
                            [Fraction(1, 2), Fraction(3, 7), Fraction(2, 5), Fraction(-1, 2)])

    def test_a_told_list_is_the_askers_own(self):
        marks, counts = [(9, 1), (7, 1)], [1, 2]
        borders(marks, counts).append(None)
        self.assertEqual(borders(marks, counts), [(9, 1)])


class Grade(Case):
    def test_at_below_and_above_each_border(self):
        self.assert_grades([9, 5, 1], {LONG: 0, 10: 0, 9: 0, Fraction(89, 10): 1, 6: 1, 5: 1, Fraction(49, 10): 2,
                                       1: 2, Fraction(9, 10): 3, 0: 3, -LONG: 3})

    def test_none_is_no_border(self):
        self.assert_grades([None, 5], {9: 1, 5: 1, 4: 2})
        self.assert_grades([None, None, 5], {9: 2, 5: 2, 4: 3})
        self.assert_grades([None, None], {9: 2, 0: 2, -9: 2})

    def test_of_alike_borders_the_first(self):
        self.assert_grades([5, 5, 3], {6: 0, 5: 0, 4: 2, 3: 2, 2: 3})

    def test_no_borders(self):
        self.assert_grades([], {9: 0, 0: 0, Fraction(-1, 2): 0})

    def test_the_order_is_that_of_the_fractions(self):
        self.assert_grades([Fraction(1, 2), Fraction(2, 5)], {Fraction(3, 7): 1, Fraction(4, 7): 0, Fraction(3, 8): 2,
                                                             Fraction(LONG, 2 * LONG + 1): 1})
        self.assert_grades([Fraction(-1, 2)], {Fraction(-1, 3): 0, Fraction(-2, 3): 1})

    def test_marks_that_were_dealt_are_in_the_grades_that_the_cuts_tell(self):
        chance = random.Random(15)
        dealt = 0
        for turn in range(500):
            values = [drawn(chance, 3) for place in range(chance.randrange(12))]
            bounds = [(chance.randrange(2), chance.randrange(1, 12)) for place in range(chance.randrange(1, 6))]
            try:
                counts = cuts(pairs(values), bounds)
            except Barred:
                continue
            dealt += 1
            some = borders(pairs(values), counts)
            told = [self.ask_grade([border and Fraction(*border) for border in some], value) for value in values]
            self.assertEqual(told, [grade_dealt(values, counts, value) for value in values])
            self.assertEqual([len([one for one in told if one <= place]) for place in range(len(bounds))], counts)
        self.assertGreater(dealt, 200)

    def test_sixty_marks_and_twelve_grades(self):
        values = [Fraction(place, 7) for place in range(60)]
        counts = cuts(pairs(values), [(5, 5)] * 12)
        some = self.ask_borders(values, counts)
        self.assertEqual([grade(some, pair(value)) for value in values], [11 - place // 5 for place in range(60)])


class Near(Case):
    def test_less_than_a_border_by_less_than_the_width(self):
        self.assert_near([9], 2, {10: False, 9: False, Fraction(89, 10): True, 8: True, Fraction(71, 10): True,
                                  7: False, Fraction(69, 10): False, 6: False, -9: False})

    def test_at_a_border(self):
        for width in (Fraction(1, LONG), 1, LONG):
            self.assert_near([9], width, {9: False, 10: False, LONG: False})

    def test_by_just_the_width(self):
        self.assert_near([Fraction(1, 2)], Fraction(1, 6), {Fraction(1, 3): False, Fraction(2, 5): True})
        self.assert_near([1], Fraction(1, LONG), {Fraction(LONG - 1, LONG): False, Fraction(LONG, LONG + 1): True})

    def test_some_border_is_enough(self):
        self.assert_near([9, 5, 1], 2, {9: False, 8: True, 7: False, 6: False, 5: False, 4: True, 3: False,
                                        1: False, 0: True, -1: False})

    def test_at_one_border_and_near_another(self):
        self.assert_near([9, 8], 2, {9: False, 8: True, 7: True, 6: False})
        self.assert_near([9, 5], 100, {5: True, 9: False})

    def test_borders_in_any_order(self):
        for order in itertools.permutations([9, None, 5]):
            self.assert_near(order, 2, {9: False, 8: True, 7: False, 5: False, 4: True, 3: False})

    def test_none_is_no_border(self):
        self.assert_near([None, 5], 2, {5: False, 4: True, -1: False, 0: False})
        self.assert_near([None, None], LONG, {0: False, -9: False})

    def test_no_borders(self):
        self.assert_near([], LONG, {0: False, 9: False, -9: False})

    def test_marks_below_0(self):
        self.assert_near([Fraction(-1, 2)], Fraction(1, 2), {Fraction(-1, 2): False, Fraction(-3, 4): True, -1: False})
        self.assert_near([0], 1, {0: False, Fraction(-1, 2): True, -1: False})

    def test_drawn_ones(self):
        chance = random.Random(150)
        seen = []
        for turn in range(1000):
            some = [chance.choice((None, drawn(chance, 6))) for place in range(chance.randrange(5))]
            width, value = abs(drawn(chance, 6)) + Fraction(1, 6), drawn(chance, 6)
            seen.append(any([border is not None and 0 < border - value < width for border in some]))
            self.assertIs(self.ask_near(some, width, value), seen[-1])
        self.assertGreater(min(seen.count(True), seen.count(False)), 100)


class Named(Case):
    def test_the_arguments_have_their_names(self):
        self.assertEqual(borders(marks=[(1, 1), (2, 1)], counts=[1, 2]), [(2, 1)])
        self.assertEqual(grade(some=[(2, 1)], mark=(1, 1)), 1)
        self.assertIs(is_near(some=[(2, 1)], width=(2, 1), mark=(1, 1)), True)


if __name__ == "__main__":
    unittest.main()
