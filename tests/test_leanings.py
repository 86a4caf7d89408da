import itertools
import random
import unittest
from fractions import Fraction
from math import gcd

from hall.leanings import leanings, levelled

LONG = 10 ** 60 - 1
WORKS = ["w" + one + other for one in "abcdef" for other in "abcdefghij"]
HANDS = ["h" + sign for sign in "abcdefghijkl"]


def pair(value):
    value = Fraction(value)
    return (value.numerator, value.denominator)


def pairs(values):
    return {hand: pair(value) for hand, value in values.items()}


def group_numbers(rows):
    # Each hand's group, as the least name that is handed on along its works.
    least = {hand: hand for work, hand, mark in rows}
    for turn in range(len(least)):
        for (work, hand, mark), (other, neighbour, more) in itertools.product(rows, repeat=2):
            if work == other:
                least[hand] = min(least[hand], least[neighbour])
    return least


def sums(rows, amounts, key):
    told = {}
    for row, amount in zip(rows, amounts):
        told[key(row)] = told.get(key(row), 0) + amount
    return told


def work_of(row):
    return row[0]


def hand_of(row):
    return row[1]


def rests(rows, leaning):
    # mark - l - v of each row, v as the mean of mark - l over the work's rows
    less = [mark - leaning[hand] for work, hand, mark in rows]
    whole = sums(rows, less, work_of)
    number = sums(rows, [1] * len(rows), work_of)
    return [amount - whole[row[0]] / number[row[0]] for row, amount in zip(rows, less)]


def drawn_rows(chance, works, hands, share, size):
    rows = [(work, hand, chance.randrange(size + 1)) for work in works for hand in hands if chance.random() < share]
    chance.shuffle(rows)
    return rows


class Case(unittest.TestCase):
    def assert_is_fraction(self, told):
        self.assertIs(type(told), tuple)
        self.assertEqual([type(part) for part in told], [int, int])
        self.assertGreaterEqual(told[1], 1)
        self.assertEqual(gcd(told[0], told[1]), 1)

    def ask(self, rows):
        # The form of what is told, and that the rows stay, is asked of all rows.
        handed = list(rows)
        told = leanings(handed)
        self.assertEqual(handed, list(rows))
        self.assertIs(type(told), dict)
        self.assertEqual(sorted(told), sorted({hand for work, hand, mark in rows}))
        for leaning in told.values():
            self.assert_is_fraction(leaning)
        return told

    def ask_levelled(self, rows):
        handed = list(rows)
        told = levelled(handed)
        self.assertEqual(handed, list(rows))
        self.assertIs(type(told), list)
        self.assertEqual([type(row) for row in told], [tuple] * len(rows))
        self.assertEqual([row[:2] for row in told], [row[:2] for row in rows])
        for work, hand, mark in told:
            self.assert_is_fraction(mark)
        return told

    def assert_leanings(self, rows, values):
        self.assertEqual(self.ask(rows), pairs(values))

    def assert_even(self, rows):
        leaning = {hand: Fraction(*told) for hand, told in self.ask(rows).items()}
        rest = rests(rows, leaning)
        group = group_numbers(rows)
        for key in (work_of, hand_of):
            self.assertEqual(set(sums(rows, rest, key).values()), {0})
        taken = [leaning[hand] for work, hand, mark in rows]
        self.assertEqual(set(sums(rows, taken, lambda row: group[row[1]]).values()), {0})

    def assert_sums_stay(self, rows):
        told = [Fraction(*mark) for work, hand, mark in self.ask_levelled(rows)]
        marks = [mark for work, hand, mark in rows]
        group = group_numbers(rows)
        self.assertEqual(sum(told), sum(marks))
        self.assertEqual(sums(rows, told, lambda row: group[row[1]]), sums(rows, marks, lambda row: group[row[1]]))


class Leanings(Case):
    def test_no_rows(self):
        self.assert_leanings([], {})
        self.assertIsNot(leanings([]), leanings([]))

    def test_a_hand_alone_leans_by_0(self):
        self.assert_leanings([("ode", "ann", 7)], {"ann": 0})
        self.assert_leanings([("ode", "ann", 7), ("lay", "ann", 0), ("air", "ann", 2)], {"ann": 0})

    def test_two_hands_of_one_work(self):
        self.assert_leanings([("ode", "ann", 8), ("ode", "bob", 5)], {"ann": Fraction(3, 2), "bob": Fraction(-3, 2)})
        self.assert_leanings([("ode", "ann", 4), ("ode", "bob", 4)], {"ann": 0, "bob": 0})
        self.assert_leanings([("ode", "ann", 0), ("ode", "bob", 10)], {"ann": -5, "bob": 5})

    def test_two_hands_that_mark_all(self):
        rows = [("ode", "ann", 8), ("lay", "ann", 6), ("ode", "bob", 6), ("lay", "bob", 4)]
        self.assert_leanings(rows, {"ann": 1, "bob": -1})

    def test_a_hand_with_more_rows_counts_by_their_number(self):
        rows = [("ode", "ann", 8), ("lay", "ann", 6), ("ode", "bob", 5)]
        self.assert_leanings(rows, {"ann": 1, "bob": -2})

    def test_joined_step_by_step(self):
        rows = [("ode", "ann", 7), ("ode", "bob", 4), ("lay", "bob", 5), ("lay", "cat", 10)]
        self.assert_leanings(rows, {"ann": 1, "bob": -2, "cat": 3})

    def test_marks_that_no_leanings_even_out(self):
        rows = [("ode", "ann", 4), ("ode", "bob", 0), ("lay", "bob", 0), ("lay", "cat", 0),
                ("air", "cat", 0), ("air", "ann", 0)]
        self.assert_leanings(rows, {"ann": Fraction(4, 3), "bob": Fraction(-4, 3), "cat": 0})
        self.assert_even(rows)

    def test_a_ring_of_like_steps(self):
        rows = [("ode", "ann", 3), ("ode", "bob", 0), ("lay", "bob", 3), ("lay", "cat", 0),
                ("air", "cat", 3), ("air", "ann", 0)]
        self.assert_leanings(rows, {"ann": 0, "bob": 0, "cat": 0})

    def test_groups_know_nothing_of_one_another(self):
        one = [("ode", "ann", 8), ("lay", "ann", 6), ("ode", "cat", 5)]
        other = [("air", "bob", 90), ("air", "dan", 10)]
        alone = [("song", "eve", 55)]
        wanted = {"ann": 1, "cat": -2, "bob": 40, "dan": -40, "eve": 0}
        for parts in itertools.permutations((one, other, alone)):
            self.assert_leanings(parts[0] + parts[1] + parts[2], wanted)
        self.assert_leanings([other[0]] + one + alone + [other[1]], wanted)

    def test_works_and_hands_of_one_name_are_not_mixed_up(self):
        self.assert_leanings([("ann", "bob", 3), ("bob", "ann", 9)], {"ann": 0, "bob": 0})
        self.assert_leanings([("ann", "bob", 3), ("ann", "ann", 9)], {"ann": 3, "bob": -3})

    def test_marks_of_sixty_figures(self):
        half = Fraction(LONG, 2)
        self.assert_leanings([("ode", "ann", LONG), ("ode", "bob", 0)], {"ann": half, "bob": -half})
        chance = random.Random(60)
        rows = drawn_rows(chance, WORKS[:20], HANDS, 0.3, LONG)
        self.assert_even(rows)
        self.assert_sums_stay(rows)

    def test_a_built_in_leaning_is_found(self):
        # Marks made of a number for the work and one for the hand come out without a rest.
        chance = random.Random(8)
        for turn in range(20):
            worths = {work: chance.randrange(100, 200) for work in WORKS[:9]}
            bent = {hand: chance.randrange(-50, 50) for hand in HANDS[:5]}
            rows = [(work, hand, worths[work] + bent[hand]) for work in worths for hand in bent
                    if chance.random() < 0.4]
            group = group_numbers(rows)
            number = sums(rows, [1] * len(rows), lambda row: group[row[1]])
            whole = sums(rows, [bent[row[1]] for row in rows], lambda row: group[row[1]])
            wanted = {hand: bent[hand] - Fraction(whole[group[hand]], number[group[hand]]) for hand in group}
            self.assert_leanings(rows, wanted)

    def test_many_rows_of_several_groups_come_out_even(self):
        chance = random.Random(88)
        for turn in range(150):
            rows = []
            for part in range(chance.randrange(1, 4)):
                works = WORKS[part * 20:part * 20 + chance.randrange(1, 8)]
                hands = HANDS[part * 4:part * 4 + chance.randrange(1, 5)]
                rows += drawn_rows(chance, works, hands, chance.choice((0.3, 0.6, 1)), chance.choice((1, 10, 1000)))
            if rows:
                chance.shuffle(rows)
                with self.subTest(rows):
                    self.assert_even(rows)
                    self.assert_sums_stay(rows)

    def test_no_other_numbers_have_a_lesser_sum_of_squares(self):
        chance = random.Random(888)
        rows = drawn_rows(chance, WORKS[:6], HANDS[:4], 0.7, 10)
        leaning = {hand: Fraction(*told) for hand, told in self.ask(rows).items()}
        best = sum([rest ** 2 for rest in rests(rows, leaning)])
        for turn in range(200):
            other = {hand: leaning[hand] + Fraction(chance.randrange(-9, 10), 7) for hand in leaning}
            self.assertLessEqual(best, sum([rest ** 2 for rest in rests(rows, other)]))

    def test_twelve_hands_with_sixty_works(self):
        chance = random.Random(12)
        for share in (0.05, 0.2, 0.5, 1):
            rows = drawn_rows(chance, WORKS, HANDS, share, 100)
            with self.subTest(share):
                self.assert_sparse_or_full(rows)

    def assert_sparse_or_full(self, rows):
        # The slow look for groups is spared: all that is asked here holds of any rows.
        leaning = {hand: Fraction(*told) for hand, told in self.ask(rows).items()}
        rest = rests(rows, leaning)
        self.assertEqual(set(sums(rows, rest, hand_of).values()), {0})
        self.assertEqual(sum([leaning[hand] for work, hand, mark in rows]), 0)
        self.assertEqual(sum([Fraction(*mark) for work, hand, mark in self.ask_levelled(rows)]),
                         sum([mark for work, hand, mark in rows]))

    def test_somewhat_more_hands_and_works(self):
        chance = random.Random(13)
        rows = drawn_rows(chance, WORKS + ["more", "most"], HANDS + ["more", "most"], 0.5, 100)
        self.assert_sparse_or_full(rows)

    def test_rows_in_every_order_tell_the_same(self):
        rows = [("ode", "ann", 7), ("ode", "bob", 4), ("lay", "bob", 5), ("lay", "cat", 10), ("air", "ann", 2),
                ("song", "dan", 1)]
        wanted = self.ask(rows)
        for order in itertools.permutations(rows):
            self.assertEqual(self.ask(order), wanted)

    def test_many_rows_in_any_order_tell_the_same(self):
        chance = random.Random(3)
        rows = drawn_rows(chance, WORKS, HANDS, 0.3, 100)
        wanted = self.ask(rows)
        for turn in range(10):
            chance.shuffle(rows)
            self.assertEqual(self.ask(rows), wanted)

    def test_what_is_told_is_the_askers_own(self):
        rows = [("ode", "ann", 8), ("ode", "bob", 4)]
        first = leanings(rows)
        first["ann"] = (9, 1)
        first["cat"] = (9, 1)
        self.assertEqual(leanings(rows), {"ann": (2, 1), "bob": (-2, 1)})
        told = leanings(rows)
        rows.clear()
        self.assertEqual(told, {"ann": (2, 1), "bob": (-2, 1)})


class Levelled(Case):
    def test_no_rows(self):
        self.assertEqual(self.ask_levelled([]), [])

    def test_a_hand_alone_keeps_its_marks(self):
        rows = [("ode", "ann", 7), ("lay", "ann", 0)]
        self.assertEqual(self.ask_levelled(rows), [("ode", "ann", (7, 1)), ("lay", "ann", (0, 1))])

    def test_each_mark_less_its_hands_leaning(self):
        rows = [("ode", "ann", 8), ("lay", "ann", 6), ("ode", "bob", 5)]
        wanted = [("ode", "ann", (7, 1)), ("lay", "ann", (5, 1)), ("ode", "bob", (7, 1))]
        self.assertEqual(self.ask_levelled(rows), wanted)

    def test_levelled_marks_may_lie_below_0_and_above_all_marks(self):
        rows = [("ode", "ann", 10), ("ode", "bob", 0), ("lay", "ann", 0), ("air", "bob", 10)]
        wanted = [("ode", "ann", (5, 1)), ("ode", "bob", (5, 1)), ("lay", "ann", (-5, 1)), ("air", "bob", (15, 1))]
        self.assertEqual(self.ask_levelled(rows), wanted)

    def test_in_the_order_of_the_rows(self):
        rows = [("ode", "ann", 7), ("ode", "bob", 4), ("lay", "bob", 5), ("lay", "cat", 9), ("air", "dan", 2)]
        wanted = dict(zip(rows, self.ask_levelled(rows)))
        for order in itertools.permutations(rows):
            self.assertEqual(self.ask_levelled(order), [wanted[row] for row in order])

    def test_many_rows_by_their_leanings(self):
        chance = random.Random(9)
        rows = drawn_rows(chance, WORKS, HANDS, 0.3, LONG)
        leaning = leanings(rows)
        wanted = [(work, hand, pair(mark - Fraction(*leaning[hand]))) for work, hand, mark in rows]
        self.assertEqual(self.ask_levelled(rows), wanted)

    def test_the_sum_stays_in_each_group(self):
        rows = [("ode", "ann", 8), ("air", "bob", 90), ("lay", "ann", 6), ("air", "dan", 11), ("ode", "cat", 5),
                ("song", "eve", 55)]
        self.assert_sums_stay(rows)
        told = {row[:2]: Fraction(*row[2]) for row in self.ask_levelled(rows)}
        self.assertEqual(told[("ode", "ann")] + told[("lay", "ann")] + told[("ode", "cat")], 19)
        self.assertEqual(told[("air", "bob")] + told[("air", "dan")], 101)
        self.assertEqual(told[("song", "eve")], 55)

    def test_what_is_told_is_the_askers_own(self):
        rows = [("ode", "ann", 8), ("ode", "bob", 4)]
        first = levelled(rows)
        first.clear()
        self.assertEqual(levelled(rows), [("ode", "ann", (6, 1)), ("ode", "bob", (6, 1))])


if __name__ == "__main__":
    unittest.main()
