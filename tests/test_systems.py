import copy
import itertools
import random
import unittest
from fractions import Fraction
from math import gcd

from hall.errors import HallError, NoAnswer
from hall.systems import solved

LONG = 10 ** 60 - 1


def pair(value):
    value = Fraction(value)
    return (value.numerator, value.denominator)


def pairs(values):
    return [pair(value) for value in values]


def came_to(rows, answer):
    return [sum([left * unknown for left, unknown in zip(row, answer)], Fraction(0)) for row in rows]


def determinant(rows):
    if not rows:
        return Fraction(1)
    reached = Fraction(0)
    for place, head in enumerate(rows[0]):
        if head != 0:
            rest = [row[:place] + row[place + 1:] for row in rows[1:]]
            reached += (-1) ** place * head * determinant(rest)
    return reached


def drawn(chance, size):
    return Fraction(chance.randrange(-size, size + 1), chance.randrange(1, size + 1))


class Case(unittest.TestCase):
    def ask(self, rows, rights):
        # The form of what is told, and that nothing handed in changes, is asked of every system.
        handed = ([pairs(row) for row in rows], pairs(rights))
        before = copy.deepcopy(handed)
        try:
            told = solved(*handed)
        finally:
            self.assertEqual(handed, before)
        self.assertIs(type(told), list)
        for part in told:
            self.assertIs(type(part), tuple)
            self.assertEqual([type(number) for number in part], [int, int])
            self.assertGreaterEqual(part[1], 1)
            self.assertEqual(gcd(part[0], part[1]), 1)
        return told

    def assert_answer(self, rows, answer):
        self.assertEqual(self.ask(rows, came_to(rows, answer)), pairs(answer))

    def assert_refused(self, rows, rights):
        with self.assertRaises(NoAnswer):
            self.ask(rows, rights)


class OneAnswer(Case):
    def test_of_no_rows(self):
        self.assertEqual(solved([], []), [])
        self.assertIsNot(solved([], []), solved([], []))

    def test_one_unknown(self):
        self.assertEqual(solved([[(2, 1)]], [(3, 1)]), [(3, 2)])
        self.assertEqual(solved([[(-2, 3)]], [(4, 1)]), [(-6, 1)])
        self.assertEqual(solved([[(-2, 3)]], [(0, 1)]), [(0, 1)])

    def test_two_unknowns(self):
        self.assertEqual(solved([[(1, 1), (1, 1)], [(1, 1), (-1, 1)]], [(3, 1), (2, 1)]), [(5, 2), (1, 2)])
        self.assertEqual(solved([[(1, 2), (1, 3)], [(1, 4), (1, 5)]], [(1, 1), (1, 1)]), [(-8, 1), (15, 1)])

    def test_rows_that_want_exchanging(self):
        self.assertEqual(solved([[(0, 1), (1, 1)], [(1, 1), (0, 1)]], [(7, 1), (8, 1)]), [(8, 1), (7, 1)])
        self.assert_answer([[0, 0, 2], [0, 3, 1], [5, 1, 1]], [1, 2, 3])
        self.assert_answer([[1, 1, 1], [1, 1, 2], [1, 2, 1]], [4, -5, Fraction(1, 6)])
        self.assert_answer([[0, 0, 0, 1], [0, 0, 1, 0], [0, 1, 0, 0], [1, 0, 0, 0]], [1, 2, 3, 4])
        self.assert_answer([[1, 2, 3, 4], [1, 2, 3, 5], [1, 2, 4, 4], [2, 1, 1, 1]], [1, -1, 2, -2])

    def test_every_order_of_the_unknowns(self):
        for length in (2, 3, 4, 5):
            for order in itertools.permutations(range(length)):
                rows = [[int(place == spot) * (spot + 2) for spot in range(length)] for place in order]
                self.assert_answer(rows, list(range(1, length + 1)))

    def test_rows_in_every_order_have_one_answer(self):
        rows = [[0, 1, 2, 3], [1, 1, 0, Fraction(1, 2)], [0, 0, 5, 1], [2, 0, 0, -7]]
        for order in itertools.permutations(rows):
            self.assert_answer(list(order), [Fraction(1, 3), 2, -3, 0])

    def test_entries_with_parts(self):
        chance = random.Random(6)
        for length, turn in itertools.product(range(1, 6), range(60)):
            rows = [[drawn(chance, 6) for spot in range(length)] for place in range(length)]
            if determinant(rows) != 0:
                self.assert_answer(rows, [drawn(chance, 9) for place in range(length)])

    def test_entries_with_many_figures(self):
        chance = random.Random(66)
        for length, size in ((1, LONG), (2, LONG), (3, LONG), (4, LONG), (6, LONG), (8, 10 ** 20)):
            rows = [[drawn(chance, size) for spot in range(length)] for place in range(length)]
            answer = [drawn(chance, LONG) for place in range(length)]
            self.assert_answer(rows, answer)
            rights = [drawn(chance, size) for place in range(length)]
            told = [Fraction(*part) for part in self.ask(rows, rights)]
            self.assertEqual(came_to(rows, told), rights)

    def test_a_near_miss_of_several_answers(self):
        self.assert_answer([[LONG, LONG - 1], [LONG + 1, LONG]], [3, 4])
        self.assert_answer([[1, 1], [1, Fraction(LONG, LONG - 1)]], [3, 4])

    def test_more_unknowns(self):
        chance = random.Random(12)
        for length in (7, 12, 20):
            rows = [[Fraction(chance.randrange(-3, 4)) for spot in range(length)] for place in range(length)]
            for place in range(length):
                rows[place][place] += 10 * length
            chance.shuffle(rows)
            self.assert_answer(rows, [drawn(chance, 50) for place in range(length)])

    def test_asked_again_the_same(self):
        rows, rights = [[(0, 1), (1, 2)], [(3, 1), (1, 7)]], [(1, 1), (2, 1)]
        first = solved(rows, rights)
        again = solved(rows, rights)
        self.assertEqual(first, again)
        self.assertIsNot(first, again)
        first.append((9, 1))
        self.assertEqual(solved(rows, rights), again)
        self.assertEqual((rows, rights), ([[(0, 1), (1, 2)], [(3, 1), (1, 7)]], [(1, 1), (2, 1)]))

    def test_one_list_as_several_rows_stays_as_it_was(self):
        row = [(1, 1), (2, 1)]
        with self.assertRaises(NoAnswer):
            solved([row, row], [(1, 1), (1, 1)])
        self.assertEqual(row, [(1, 1), (2, 1)])


class Refused(Case):
    def test_one_unknown(self):
        self.assert_refused([[0]], [0])
        self.assert_refused([[0]], [1])

    def test_none(self):
        self.assert_refused([[1, 1], [1, 1]], [1, 2])
        self.assert_refused([[1, 2], [Fraction(1, 2), 1]], [1, 1])
        self.assert_refused([[1, 0, 0], [0, 1, 0], [1, 1, 0]], [1, 1, 3])
        self.assert_refused([[0, 1], [0, 2]], [1, 1])
        self.assert_refused([[0, 0], [1, 1]], [1, 1])

    def test_several(self):
        self.assert_refused([[1, 1], [1, 1]], [1, 1])
        self.assert_refused([[1, 2], [Fraction(1, 2), 1]], [2, 1])
        self.assert_refused([[1, 0, 0], [0, 1, 0], [1, 1, 0]], [1, 1, 2])
        self.assert_refused([[0, 1], [0, 2]], [1, 2])
        self.assert_refused([[0, 0], [1, 1]], [0, 1])

    def test_nothing_but_noughts(self):
        for length in range(1, 6):
            rows = [[0] * length for place in range(length)]
            self.assert_refused(rows, [0] * length)
            self.assert_refused(rows, [0] * (length - 1) + [1])

    def test_a_row_that_others_make_up(self):
        chance = random.Random(666)
        for length, turn in itertools.product(range(2, 7), range(30)):
            size = chance.choice((3, LONG))
            rows = [[drawn(chance, size) for spot in range(length)] for place in range(length - 1)]
            rights = [drawn(chance, size) for place in range(length - 1)]
            parts = [drawn(chance, 5) for place in range(length - 1)]
            made = [sum([part * row[spot] for part, row in zip(parts, rows)]) for spot in range(length)]
            right = sum([part * one for part, one in zip(parts, rights)])
            place = chance.randrange(length)
            rows.insert(place, made)
            self.assert_refused(rows, rights[:place] + [right] + rights[place:])
            self.assert_refused(rows, rights[:place] + [right + 1] + rights[place:])

    def test_all_small_ones(self):
        for numbers in itertools.product((-1, 0, 1), repeat=4):
            rows = [list(numbers[:2]), list(numbers[2:])]
            for rights in itertools.product((0, 1), repeat=2):
                with self.subTest(rows=rows, rights=rights):
                    if determinant(rows) == 0:
                        self.assert_refused(rows, list(rights))
                    else:
                        told = [Fraction(*part) for part in self.ask(rows, list(rights))]
                        self.assertEqual(came_to(rows, told), list(rights))

    def test_the_refusal_is_a_hall_error(self):
        with self.assertRaises(HallError):
            solved([[(0, 1)]], [(0, 1)])


if __name__ == "__main__":
    unittest.main()
