import itertools
import random
import unittest

from hall.books import Book
from hall.errors import HallError, Missing, NoMark, NoName, Twice

LONG = 10 ** 60 - 1

NO_NAMES = ("", "abcdefghi", "A", "aB", "Zz", "1", "a1", "1a", " ", "a b", " a", "a ", "a\n", "\na", "a-b", "a_b",
            "a.", "`", "{", "\u00e4", "a\u00e9", "\u0430", "\u00df", "\uff41", "\u00aa", "\0",
            0, 1, -1, 7, LONG, 1.5, True, False, None, [], ["a"], ["a", "b"], [[]], (), ("a",), {}, {"a": "a"}, b"a")
NO_MARKS = (-1, 11, 12, -LONG, LONG, True, False, None, "", "3", "a", 3.0, 0.5, [], [3], (3,), {}, {3: 3}, b"3")


def held(book):
    return (book.rows(), book.works(), book.hands())


class Case(unittest.TestCase):
    def assert_refused(self, book, refusal, ask, *handed):
        before = held(book)
        with self.assertRaises(refusal):
            ask(*handed)
        self.assertEqual(held(book), before)


class Put(Case):
    def test_a_new_book_is_empty(self):
        self.assertEqual(held(Book(10)), ([], [], []))

    def test_put_tells_none(self):
        self.assertIsNone(Book(10).put("ode", "ann", 3))

    def test_rows_are_tuples_by_work_then_by_hand(self):
        rows = [("lay", "ann", 10), ("lay", "bob", 9), ("ode", "ann", 0), ("ode", "cat", 5), ("psalm", "bob", 1)]
        for order in itertools.permutations(rows):
            book = Book(10)
            for work, hand, mark in order:
                book.put(work, hand, mark)
            self.assertEqual(book.rows(), rows)
            self.assertEqual([type(row) for row in book.rows()], [tuple] * 5)
            self.assertEqual(book.works(), ["lay", "ode", "psalm"])
            self.assertEqual(book.hands(), ["ann", "bob", "cat"])

    def test_names_that_are_beginnings_of_one_another(self):
        names = ["a", "aa", "aaa", "ab", "aba", "b", "ba"]
        rows = [(work, hand, 1) for work in names for hand in names]
        book = Book(1)
        for work, hand, mark in reversed(rows):
            book.put(work, hand, mark)
        self.assertEqual(book.rows(), rows)
        self.assertEqual((book.works(), book.hands()), (names, names))
        book.drop("a", "ab")
        self.assertEqual(book.rows(), [row for row in rows if row[:2] != ("a", "ab")])
        book.put("a", "ab", 1)
        self.assertEqual(book.rows(), rows)

    def test_work_and_hand_are_not_mixed_up(self):
        book = Book(10)
        book.put("ann", "bob", 1)
        book.put("bob", "ann", 2)
        book.put("ann", "ann", 3)
        self.assertEqual(book.rows(), [("ann", "ann", 3), ("ann", "bob", 1), ("bob", "ann", 2)])

    def test_names_of_one_and_of_eight_letters(self):
        book = Book(10)
        book.put("a", "zzzzzzzz", 1)
        book.put("abcdefgh", "z", 2)
        book.put("ijklmnop", "qrstuvwx", 3)
        self.assertEqual(book.works(), ["a", "abcdefgh", "ijklmnop"])
        self.assertEqual(book.hands(), ["qrstuvwx", "z", "zzzzzzzz"])

    def test_marks_of_0_and_of_most(self):
        for most in (0, 1, 10, LONG):
            with self.subTest(most):
                book = Book(most)
                book.put("ode", "ann", 0)
                book.put("ode", "bob", most)
                self.assertEqual(book.rows(), [("ode", "ann", 0), ("ode", "bob", most)])
                self.assert_refused(book, NoMark, book.put, "ode", "cat", most + 1)
                self.assert_refused(book, NoMark, book.put, "ode", "cat", -1)

    def test_books_know_nothing_of_one_another(self):
        one, other = Book(10), Book(5)
        one.put("ode", "ann", 7)
        self.assertEqual(held(other), ([], [], []))
        self.assert_refused(other, NoMark, other.put, "ode", "ann", 7)
        other.put("ode", "ann", 4)
        self.assertEqual(one.rows(), [("ode", "ann", 7)])


class PutRefused(Case):
    def setUp(self):
        self.book = Book(10)
        self.book.put("ode", "ann", 3)
        self.book.put("lay", "bob", 0)

    def test_works_that_are_no_names(self):
        for name in NO_NAMES:
            with self.subTest(repr(name)):
                self.assert_refused(self.book, NoName, self.book.put, name, "ann", 3)

    def test_hands_that_are_no_names(self):
        for name in NO_NAMES:
            with self.subTest(repr(name)):
                self.assert_refused(self.book, NoName, self.book.put, "ode", name, 3)

    def test_no_names_come_ahead_of_no_marks(self):
        for name, mark in itertools.product(NO_NAMES, NO_MARKS):
            with self.subTest(name=repr(name), mark=repr(mark)):
                self.assert_refused(self.book, NoName, self.book.put, name, "ann", mark)
                self.assert_refused(self.book, NoName, self.book.put, "ode", name, mark)
                self.assert_refused(self.book, NoName, self.book.put, name, name, mark)

    def test_marks_that_are_none(self):
        for mark in NO_MARKS:
            with self.subTest(repr(mark)):
                self.assert_refused(self.book, NoMark, self.book.put, "ode", "bob", mark)

    def test_truths_are_no_marks(self):
        for most in (0, 1, 10):
            book = Book(most)
            for truth in (True, False):
                self.assert_refused(book, NoMark, book.put, "ode", "ann", truth)

    def test_no_marks_come_ahead_of_twice(self):
        for mark in NO_MARKS:
            with self.subTest(repr(mark)):
                self.assert_refused(self.book, NoMark, self.book.put, "ode", "ann", mark)

    def test_twice(self):
        for mark in (0, 3, 4, 10):
            with self.subTest(mark):
                self.assert_refused(self.book, Twice, self.book.put, "ode", "ann", mark)
        self.assert_refused(self.book, Twice, self.book.put, "lay", "bob", 0)

    def test_refusals_are_hall_errors(self):
        self.assert_refused(self.book, HallError, self.book.put, "", "ann", 3)
        self.assert_refused(self.book, HallError, self.book.put, "ode", "bob", 11)
        self.assert_refused(self.book, HallError, self.book.put, "ode", "ann", 3)
        self.assert_refused(self.book, HallError, self.book.drop, "ode", "bob")

    def test_lists_handed_in_stay_as_they_were(self):
        name, mark = ["a"], [3]
        self.assert_refused(self.book, NoName, self.book.put, name, name, mark)
        self.assert_refused(self.book, NoMark, self.book.put, "ode", "bob", mark)
        self.assertEqual((name, mark), (["a"], [3]))


class Drop(Case):
    def setUp(self):
        self.book = Book(10)
        self.book.put("ode", "ann", 3)
        self.book.put("ode", "bob", 0)
        self.book.put("lay", "bob", 10)

    def test_drop_tells_none(self):
        self.assertIsNone(self.book.drop("ode", "ann"))

    def test_works_and_hands_last_as_long_as_they_have_a_mark(self):
        self.book.drop("ode", "bob")
        self.assertEqual(held(self.book), ([("lay", "bob", 10), ("ode", "ann", 3)], ["lay", "ode"], ["ann", "bob"]))
        self.book.drop("ode", "ann")
        self.assertEqual(held(self.book), ([("lay", "bob", 10)], ["lay"], ["bob"]))
        self.book.drop("lay", "bob")
        self.assertEqual(held(self.book), ([], [], []))

    def test_a_dropped_mark_may_be_put_anew(self):
        self.book.drop("ode", "ann")
        self.book.put("ode", "ann", 8)
        self.assertEqual(self.book.rows(), [("lay", "bob", 10), ("ode", "ann", 8), ("ode", "bob", 0)])
        self.assert_refused(self.book, Twice, self.book.put, "ode", "ann", 8)

    def test_a_mark_that_is_not_there(self):
        for work, hand in (("lay", "ann"), ("ann", "ode"), ("od", "ann"), ("odea", "nn"), ("odes", "ann"),
                           ("ode", "an"), ("x", "y")):
            with self.subTest(work=work, hand=hand):
                self.assert_refused(self.book, Missing, self.book.drop, work, hand)

    def test_a_mark_dropped_twice(self):
        self.book.drop("ode", "ann")
        self.assert_refused(self.book, Missing, self.book.drop, "ode", "ann")

    def test_of_an_empty_book(self):
        book = Book(0)
        self.assert_refused(book, Missing, book.drop, "ode", "ann")

    def test_names_that_are_none(self):
        for name in NO_NAMES:
            with self.subTest(repr(name)):
                self.assert_refused(self.book, Missing, self.book.drop, name, "ann")
                self.assert_refused(self.book, Missing, self.book.drop, "ode", name)
                self.assert_refused(self.book, Missing, self.book.drop, name, name)


class Told(Case):
    def setUp(self):
        self.book = Book(10)
        self.book.put("ode", "ann", 3)
        self.book.put("lay", "bob", 4)

    def test_changing_what_is_told_changes_nothing(self):
        before = held(self.book)
        for told in (self.book.rows(), self.book.works(), self.book.hands()):
            told.reverse()
            told.append("more")
            self.assertEqual(held(self.book), before)
            told.clear()
            self.assertEqual(held(self.book), before)

    def test_each_telling_is_a_new_list(self):
        for ask in (self.book.rows, self.book.works, self.book.hands):
            self.assertIs(type(ask()), list)
            self.assertIsNot(ask(), ask())
            self.assertEqual(ask(), ask())

    def test_what_was_told_earlier_stays(self):
        earlier = held(self.book)
        self.book.put("air", "abe", 5)
        self.book.drop("ode", "ann")
        wanted = ([("lay", "bob", 4), ("ode", "ann", 3)], ["lay", "ode"], ["ann", "bob"])
        self.assertEqual(earlier, wanted)
        self.assertEqual(held(self.book), ([("air", "abe", 5), ("lay", "bob", 4)], ["air", "lay"], ["abe", "bob"]))


class Drawn(Case):
    def test_against_a_plain_dict(self):
        chance = random.Random(5)
        names = ["a", "ab", "abc", "b", "ba", "zz"]
        for most in (0, 3, LONG):
            book, wanted = Book(most), {}
            for turn in range(400):
                work, hand, mark = chance.choice(names), chance.choice(names), chance.randrange(most + 1)
                if chance.random() < 0.5:
                    if (work, hand) in wanted:
                        self.assert_refused(book, Twice, book.put, work, hand, mark)
                    else:
                        book.put(work, hand, mark)
                        wanted[(work, hand)] = mark
                elif (work, hand) in wanted:
                    book.drop(work, hand)
                    wanted.pop((work, hand))
                else:
                    self.assert_refused(book, Missing, book.drop, work, hand)
                self.assertEqual(book.rows(), sorted([key + (value,) for key, value in wanted.items()]))
                self.assertEqual(book.works(), sorted({key[0] for key in wanted}))
                self.assertEqual(book.hands(), sorted({key[1] for key in wanted}))


if __name__ == "__main__":
    unittest.main()
