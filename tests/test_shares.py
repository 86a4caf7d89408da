import itertools
import random
import unittest
from fractions import Fraction

from hall.errors import Barred, HallError
from hall.shares import cuts, ends, reach

LONG = 10 ** 60 - 1
SMALL_BOUNDS = list(itertools.product(range(4), repeat=2))


def pair(value):
    value = Fraction(value)
    return (value.numerator, value.denominator)


def runs(number):
    # All ways in which so many falling marks are alike or not.
    for steps in itertools.product((0, 1), repeat=max(number - 1, 0)):
        yield [-sum(steps[:place]) for place in range(number)]


def ends_wanted(values):
    order = sorted(values, reverse=True)
    return [number for number in range(len(order) + 1)
            if all(one > other for one in order[:number] for other in order[number:])]


def reach_wanted(some, bounds):
    lists = [[0]]
    for least, most in bounds:
        steps = range(least, most + 1)
        lists.append(sorted({start + step for start in lists[-1] for step in steps} & set(some)))
    return lists


def cuts_wanted(values, bounds):
    # Out of all rows of counts the greatest that keeps to the bounds; None where none does.
    found = []
    for counts in itertools.product(ends_wanted(values), repeat=len(bounds)):
        steps = [count - ahead for ahead, count in zip((0,) + counts, counts)]
        if counts[-1] == len(values) and all(low <= step <= high for step, (low, high) in zip(steps, bounds)):
            found.append(list(counts))
    return max(found, default=None)


def drawn_values(chance, number, size):
    return [Fraction(chance.randrange(-size, size + 1), chance.randrange(1, size + 1)) for place in range(number)]


def drawn_bounds(chance, number, size):
    return [(chance.randrange(size + 1), chance.randrange(size + 1)) for place in range(number)]


class Case(unittest.TestCase):
    def assert_counts(self, told):
        self.assertIs(type(told), list)
        self.assertEqual([type(count) for count in told], [int] * len(told))

    def assert_lists(self, told):
        self.assertIs(type(told), list)
        for counts in told:
            self.assert_counts(counts)

    def ask_ends(self, values):
        handed = [pair(value) for value in values]
        told = ends(handed)
        self.assertEqual(handed, [pair(value) for value in values])
        self.assert_counts(told)
        return told

    def ask_reach(self, some, bounds):
        handed, limits = list(some), list(bounds)
        told = reach(handed, limits)
        self.assertEqual((handed, limits), (list(some), list(bounds)))
        self.assert_lists(told)
        return told

    def ask_cuts(self, values, bounds):
        handed, limits = [pair(value) for value in values], list(bounds)
        try:
            told = cuts(handed, limits)
        finally:
            self.assertEqual((handed, limits), ([pair(value) for value in values], list(bounds)))
        self.assert_counts(told)
        return told

    def assert_barred(self, values, bounds, lists):
        with self.assertRaises(Barred) as taken:
            self.ask_cuts(values, bounds)
        self.assertEqual(type(taken.exception).__bases__, (HallError,))
        self.assert_lists(taken.exception.reach)
        self.assertEqual(taken.exception.reach, lists)

    def assert_as_wanted(self, values, bounds):
        wanted = cuts_wanted(values, bounds)
        if wanted is None:
            self.assert_barred(values, bounds, reach_wanted(ends_wanted(values), bounds))
        else:
            self.assertEqual(self.ask_cuts(values, bounds), wanted)


class Ends(Case):
    def test_of_no_marks(self):
        self.assertEqual(self.ask_ends([]), [0])

    def test_of_one_mark(self):
        for value in (0, 7, Fraction(-1, 3), LONG):
            self.assertEqual(self.ask_ends([value]), [0, 1])

    def test_of_marks_all_alike(self):
        self.assertEqual(self.ask_ends([5, 5]), [0, 2])
        self.assertEqual(self.ask_ends([Fraction(1, 2)] * 60), [0, 60])

    def test_of_marks_none_alike(self):
        self.assertEqual(self.ask_ends([9, 5, 3, 1]), [0, 1, 2, 3, 4])

    def test_behind_each_last_one_of_alike_ones(self):
        self.assertEqual(self.ask_ends([9, 9, 5, 3, 3, 3, 1]), [0, 2, 3, 6, 7])
        self.assertEqual(self.ask_ends([9, 5, 5]), [0, 1, 3])

    def test_in_any_order(self):
        for order in itertools.permutations([4, 4, 3, 1, 1, 0]):
            self.assertEqual(self.ask_ends(order), [0, 2, 3, 5, 6])

    def test_the_order_is_that_of_the_fractions(self):
        self.assertEqual(self.ask_ends([Fraction(1, 2), Fraction(2, 5), Fraction(1, 2)]), [0, 2, 3])
        self.assertEqual(self.ask_ends([Fraction(3, 7), Fraction(1, 2), Fraction(1, 2)]), [0, 2, 3])
        self.assertEqual(self.ask_ends([-1, Fraction(-1, 2), -1]), [0, 1, 3])
        self.assertEqual(self.ask_ends([Fraction(LONG, LONG - 1), 1, 1]), [0, 1, 3])

    def test_drawn_ones(self):
        chance = random.Random(12)
        for number, size in itertools.product(range(13), (1, 2, 4, LONG)):
            values = drawn_values(chance, number, size)
            self.assertEqual(self.ask_ends(values), ends_wanted(values))

    def test_a_told_list_is_the_askers_own(self):
        marks = [(1, 1)]
        ends(marks).append(9)
        self.assertEqual(ends(marks), [0, 1])
        ends([]).append(9)
        self.assertEqual(ends([]), [0])


class Reach(Case):
    def test_one_grade(self):
        self.assertEqual(self.ask_reach([0, 1, 3, 4], [(1, 3)]), [[0], [1, 3]])
        self.assertEqual(self.ask_reach([0, 1, 3, 4], [(2, 2)]), [[0], []])

    def test_a_least_of_0_stays_where_it_is(self):
        self.assertEqual(self.ask_reach([0, 1, 2], [(0, 0)]), [[0], [0]])
        self.assertEqual(self.ask_reach([0, 1, 2], [(0, 1), (0, 0)]), [[0], [0, 1], [0, 1]])
        self.assertEqual(self.ask_reach([0, 2], [(2, 2), (0, 9)]), [[0], [2], [2]])

    def test_a_least_of_1_does_not(self):
        self.assertEqual(self.ask_reach([0, 1, 2], [(1, 1), (1, 1)]), [[0], [1], [2]])
        self.assertEqual(self.ask_reach([0, 2], [(2, 2), (1, 9)]), [[0], [2], []])

    def test_each_list_goes_on_from_the_one_ahead(self):
        self.assertEqual(self.ask_reach([0, 2, 3, 6, 7], [(1, 3), (1, 3), (1, 1)]),
                         [[0], [2, 3], [3, 6], [7]])

    def test_a_least_above_the_most_reaches_nothing(self):
        for bound in ((1, 0), (2, 1), (LONG, 0)):
            self.assertEqual(self.ask_reach([0, 1, 2], [bound]), [[0], []])
        self.assertEqual(self.ask_reach([0, 1, 2], [(0, 2), (2, 1), (0, 2)]), [[0], [0, 1, 2], [], []])

    def test_bounds_of_very_great_numbers(self):
        self.assertEqual(self.ask_reach([0, 1, 60], [(0, LONG)]), [[0], [0, 1, 60]])
        self.assertEqual(self.ask_reach([0, 1, 60], [(1, LONG), (0, LONG)]), [[0], [1, 60], [1, 60]])
        self.assertEqual(self.ask_reach([0, 1, 60], [(LONG - 1, LONG), (0, LONG)]), [[0], [], []])

    def test_counts_by_themselves(self):
        self.assertEqual(self.ask_reach([0], [(0, 5)]), [[0], [0]])
        self.assertEqual(self.ask_reach([0], [(1, 5)]), [[0], []])
        self.assertEqual(self.ask_reach([0, 10, 25, 40], [(5, 25), (10, 20)]), [[0], [10, 25], [25, 40]])

    def test_counts_of_very_great_numbers(self):
        some = [0, LONG // 3, 2 * LONG // 3, LONG]
        self.assertEqual(self.ask_reach(some, [(LONG // 3, LONG // 3)] * 3), [[0], some[1:2], some[2:3], some[3:]])
        self.assertEqual(self.ask_reach(some, [(1, LONG - 1), (LONG // 3, LONG // 3)]), [[0], some[1:3], some[2:]])

    def test_all_small_ones(self):
        for number, (one, other) in itertools.product(range(5), itertools.product(SMALL_BOUNDS, repeat=2)):
            for values in runs(number):
                some = ends_wanted(values)
                self.assertEqual(reach(some, [one, other]), reach_wanted(some, [one, other]))

    def test_drawn_ones(self):
        chance = random.Random(13)
        for turn in range(300):
            some = [0] + sorted(chance.sample(range(1, 40), chance.randrange(12)))
            bounds = drawn_bounds(chance, chance.randrange(1, 7), chance.choice((2, 9, 40)))
            self.assertEqual(self.ask_reach(some, bounds), reach_wanted(some, bounds))

    def test_told_lists_are_new(self):
        some, bounds = [0, 1, 2], [(0, 2), (0, 2)]
        told = reach(some, bounds)
        for counts in told:
            counts.append(9)
        told.clear()
        self.assertEqual(some, [0, 1, 2])
        self.assertEqual(reach(some, bounds), [[0], [0, 1, 2], [0, 1, 2]])


class Cuts(Case):
    def test_one_grade(self):
        self.assertEqual(self.ask_cuts([3, 1, 2], [(0, 60)]), [3])
        self.assertEqual(self.ask_cuts([3, 3, 3], [(3, 3)]), [3])

    def test_the_greatest_first_count(self):
        self.assertEqual(self.ask_cuts([4, 3, 2, 1], [(0, 2), (0, 4)]), [2, 4])
        self.assertEqual(self.ask_cuts([4, 3, 2, 1], [(1, 4), (0, 4)]), [4, 4])

    def test_then_the_greatest_second_one(self):
        self.assertEqual(self.ask_cuts([5, 4, 3, 2, 1], [(1, 2), (1, 2), (0, 5)]), [2, 4, 5])
        self.assertEqual(self.ask_cuts([5, 4, 3, 2, 1], [(0, 1), (0, 3), (0, 5)]), [1, 4, 5])

    def test_the_grades_behind_have_their_least(self):
        self.assertEqual(self.ask_cuts([4, 3, 2, 1], [(0, 4), (1, 1)]), [3, 4])
        self.assertEqual(self.ask_cuts([4, 3, 2, 1], [(0, 4), (0, 4), (2, 2)]), [2, 2, 4])
        self.assertEqual(self.ask_cuts([4, 3, 2, 1], [(0, 4), (1, 4), (1, 4), (1, 4)]), [1, 2, 3, 4])

    def test_the_grades_behind_have_their_most(self):
        self.assertEqual(self.ask_cuts([4, 3, 2, 1], [(0, 2), (0, 1), (0, 1)]), [2, 3, 4])

    def test_alike_ones_are_not_parted(self):
        self.assertEqual(self.ask_cuts([5, 4, 4, 3], [(0, 2), (0, 4)]), [1, 4])
        self.assertEqual(self.ask_cuts([5, 5, 4, 3], [(0, 1), (0, 4)]), [0, 4])
        self.assertEqual(self.ask_cuts([5, 4, 4, 4], [(0, 3), (0, 2), (0, 3)]), [1, 1, 4])

    def test_the_first_count_may_be_less_for_the_sake_of_the_last(self):
        self.assertEqual(self.ask_cuts([6, 5, 4, 4, 4, 3], [(1, 2), (3, 4), (1, 1)]), [2, 5, 6])
        self.assertEqual(self.ask_cuts([6, 5, 4, 4, 4, 3], [(1, 2), (4, 4), (1, 1)]), [1, 5, 6])

    def test_of_no_marks(self):
        self.assertEqual(self.ask_cuts([], [(0, 5)]), [0])
        self.assertEqual(self.ask_cuts([], [(0, 0), (0, 60), (0, LONG)]), [0, 0, 0])
        self.assert_barred([], [(1, 5)], [[0], []])
        self.assert_barred([], [(0, 5), (1, 5)], [[0], [0], []])

    def test_bounds_of_very_great_numbers(self):
        self.assertEqual(self.ask_cuts([3, 2, 1], [(1, LONG), (0, LONG)]), [3, 3])
        self.assertEqual(self.ask_cuts([3, 2, 1], [(0, LONG), (1, LONG)]), [2, 3])
        self.assert_barred([3, 2, 1], [(0, LONG), (LONG, LONG)], [[0], [0, 1, 2, 3], []])

    def test_in_any_order(self):
        for order in itertools.permutations([5, 4, 4, 3, 1]):
            self.assertEqual(self.ask_cuts(order, [(0, 2), (1, 3), (0, 5)]), [1, 4, 5])

    def test_held_against_all_rows_of_counts(self):
        for number, grades in itertools.product(range(5), (1, 2)):
            for values, bounds in itertools.product(runs(number), itertools.product(SMALL_BOUNDS, repeat=grades)):
                self.assert_as_wanted(values, bounds)

    def test_drawn_ones_held_against_all_rows_of_counts(self):
        chance = random.Random(14)
        for turn in range(400):
            values = drawn_values(chance, chance.randrange(7), chance.choice((1, 3)))
            bounds = [(chance.randrange(2), chance.randrange(1, 5)) for place in range(chance.randrange(1, 5))]
            self.assert_as_wanted(values, bounds)


class Sixty(Case):
    def test_none_alike(self):
        values = list(range(60))
        self.assertEqual(self.ask_cuts(values, [(5, 5)] * 12), list(range(5, 61, 5)))
        self.assertEqual(self.ask_cuts(values, [(0, 60)] * 12), [60] * 12)
        self.assertEqual(self.ask_cuts(values, [(1, 60)] * 12), list(range(49, 61)))
        self.assertEqual(self.ask_cuts(values, [(0, 5)] * 12), list(range(5, 61, 5)))

    def test_two_alike_each_time(self):
        values = [place // 2 for place in range(60)]
        self.assertEqual(self.ask_cuts(values, [(4, 6)] * 12), list(range(6, 37, 6)) + list(range(40, 61, 4)))
        self.assert_barred(values, [(5, 5)] * 12, [[0]] + [[]] * 12)
        self.assert_barred(values, [(0, 6)] * 11 + [(1, 1)], reach_wanted(range(0, 61, 2), [(0, 6)] * 11 + [(1, 1)]))

    def test_all_alike(self):
        self.assertEqual(self.ask_cuts([7] * 60, [(0, 59)] * 11 + [(0, 60)]), [0] * 11 + [60])
        self.assert_barred([7] * 60, [(0, 59)] * 12, [[0]] * 13)


class BarredReach(Case):
    def test_just_where_the_number_is_not_in_the_last_list(self):
        chance = random.Random(140)
        seen = []
        for turn in range(1000):
            values = drawn_values(chance, chance.randrange(9), 2)
            bounds = drawn_bounds(chance, chance.randrange(1, 4), 5)
            lists = self.ask_reach(self.ask_ends(values), bounds)
            seen.append(len(values) in lists[-1])
            if seen[-1]:
                self.ask_cuts(values, bounds)
            else:
                self.assert_barred(values, bounds, lists)
        self.assertGreater(min(seen.count(True), seen.count(False)), 50)

    def test_too_few_and_too_many_marks(self):
        self.assert_barred([3], [(1, 2), (1, 2)], [[0], [1], []])
        self.assert_barred([5, 4, 3, 2, 1], [(1, 2), (1, 2)], [[0], [1, 2], [2, 3, 4]])

    def test_alike_ones_that_fit_nowhere(self):
        self.assert_barred([3, 3, 3, 1], [(0, 2), (0, 2), (0, 2)], [[0], [0], [0], [0]])

    def test_the_reach_is_the_askers_own(self):
        marks, bounds = [(3, 1)], [(1, 2), (1, 2)]
        for turn in range(2):
            with self.assertRaises(Barred) as taken:
                cuts(marks, bounds)
            self.assertEqual(taken.exception.reach, [[0], [1], []])
            for counts in taken.exception.reach:
                counts.append(9)
            taken.exception.reach.append([7])
        self.assertEqual((marks, bounds), ([(3, 1)], [(1, 2), (1, 2)]))


class Named(Case):
    def test_the_arguments_have_their_names(self):
        self.assertEqual(ends(marks=[(1, 1)]), [0, 1])
        self.assertEqual(reach(some=[0, 1], bounds=[(1, 1)]), [[0], [1]])
        self.assertEqual(cuts(marks=[(1, 1)], bounds=[(1, 1)]), [1])

    def test_a_told_list_of_cuts_is_the_askers_own(self):
        marks, bounds = [(3, 1), (2, 1)], [(0, 1), (0, 2)]
        cuts(marks, bounds).append(9)
        self.assertEqual(cuts(marks, bounds), [1, 2])


if __name__ == "__main__":
    unittest.main()
