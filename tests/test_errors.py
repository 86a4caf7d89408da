import copy
import unittest

from hall import errors
from hall.errors import Barred, HallError, Open

PLAIN = ("NoFraction", "NoName", "NoMark", "Twice", "Missing", "NoAnswer", "Few", "Apart", "NoScale",
         "NoWork", "NoSitting", "NoRow")
ALL = PLAIN + ("Barred", "Open")


def made(name):
    if name == "Barred":
        return Barred([[0], [1, 2]])
    if name == "Open":
        return Open("ode", True)
    return getattr(errors, name)("free words")


class Classes(unittest.TestCase):
    def test_there_are_fourteen(self):
        self.assertEqual(len(set(ALL)), 14)

    def test_hall_error_stands_straight_under_value_error(self):
        self.assertEqual(HallError.__bases__, (ValueError,))

    def test_each_stands_straight_under_hall_error(self):
        for name in ALL:
            with self.subTest(name):
                self.assertEqual(getattr(errors, name).__bases__, (HallError,))

    def test_hall_error_and_value_error_take_each(self):
        for name in ALL:
            for taker in (HallError, ValueError):
                with self.subTest(name), self.assertRaises(taker):
                    raise made(name)

    def test_none_is_taken_by_another_ones_class(self):
        for name in ALL:
            for other in ALL:
                with self.subTest(name=name, other=other):
                    self.assertEqual(isinstance(made(name), getattr(errors, other)), name == other)

    def test_plain_ones_are_made_without_words_too(self):
        for name in PLAIN:
            with self.subTest(name), self.assertRaises(getattr(errors, name)):
                raise getattr(errors, name)

    def test_nothing_else_takes_a_hall_error(self):
        for name in ALL:
            with self.subTest(name):
                self.assertNotIsInstance(HallError("words"), getattr(errors, name))


class Values(unittest.TestCase):
    def test_barred_holds_its_reach(self):
        for reach in ([[0]], [[0], []], [[0], [1, 2], [3]]):
            with self.subTest(reach):
                self.assertEqual(Barred(reach).reach, reach)
                self.assertEqual(Barred(reach=reach).reach, reach)

    def test_barred_keeps_nothing_of_its_makers_lists(self):
        reach = [[0], [1, 2]]
        error = Barred(reach)
        words = str(error)
        reach[1].append(9)
        reach.append([7])
        self.assertEqual(error.reach, [[0], [1, 2]])
        self.assertEqual(str(error), words)

    def test_a_told_reach_is_the_askers_own(self):
        reach = [[0], [1, 2]]
        error = Barred(reach)
        error.reach[1].append(9)
        error.reach.append([7])
        self.assertEqual(reach, [[0], [1, 2]])

    def test_open_holds_work_and_apart(self):
        for apart in (True, False):
            error = Open("ode", apart)
            self.assertEqual(error.work, "ode")
            self.assertIs(error.apart, apart)
            self.assertIs(Open(work="ode", apart=apart).apart, apart)

    def test_each_object_has_its_own_values(self):
        one, other = Open("ode", True), Open("lay", False)
        self.assertEqual((one.work, one.apart, other.work, other.apart), ("ode", True, "lay", False))
        first, second = Barred([[0]]), Barred([[0], [3]])
        self.assertEqual((first.reach, second.reach), ([[0]], [[0], [3]]))

    def test_values_are_there_when_taken_as_hall_error(self):
        with self.assertRaises(HallError) as taken:
            raise Barred([[0], [2]])
        self.assertEqual(taken.exception.reach, [[0], [2]])
        with self.assertRaises(HallError) as taken:
            raise Open("ode", False)
        self.assertEqual((taken.exception.work, taken.exception.apart), ("ode", False))

    def test_a_copied_error_has_the_same_values(self):
        self.assertEqual(copy.deepcopy(Barred([[0], [2]])).reach, [[0], [2]])
        self.assertEqual(copy.copy(Open("ode", True)).work, "ode")


if __name__ == "__main__":
    unittest.main()
