import itertools
import random
import unittest
from fractions import Fraction
from math import gcd

from hall.borders import borders, grade
from hall.errors import Apart, Barred, Few, HallError, Missing, NoWork, Open
from hall.fractions import minus
from hall.leanings import leanings, levelled
from hall.rules import worth
from hall.scales import Scale
from hall.shares import cuts
from hall.sittings import Sitting

LONG = 10 ** 60 - 1
RULES = ("mean", "middle", "pair")
# ann leans by 1, bob by -2, cat by 3; levelled, all marks of ode are 7, of lay 5, of air 3.
PANEL = [("ode", "ann", 8), ("ode", "bob", 5), ("ode", "cat", 10), ("lay", "ann", 6), ("lay", "bob", 3),
         ("air", "ann", 4), ("air", "bob", 1)]
HANDS = ("ann", "bob", "cat", "dan", "eve")
TENFOLD = [(0, 0), (10, 100)]
THREE = [(1, 1), (1, 1), (0, 9)]
SETTLED = [("air", (30, 1), 2), ("lay", (50, 1), 1), ("ode", (70, 1), 0)]


def pair(value):
    value = Fraction(value)
    return (value.numerator, value.denominator)


def scale_of(values):
    return Scale([(pair(x), pair(y)) for x, y in values])


def made(rows=PANEL, rule="mean", gap=0, scale=TENFOLD, bounds=THREE):
    return Sitting(list(rows), rule, pair(gap), scale_of(scale), list(bounds))


def held(sitting):
    return (sitting.table(), sitting.borders(), [sitting.leaning(hand) for hand in HANDS])


def drawn_rows(chance, works, hands, share, size):
    rows = [(work, hand, chance.randrange(size + 1)) for work in works for hand in hands if chance.random() < share]
    chance.shuffle(rows)
    return rows


class Model:
    # A sitting put together out of the stages beneath, all reckoned anew at each step.
    def __init__(self, rows, rule, gap, scale, bounds):
        self.rule, self.gap, self.scale = rule, gap, scale
        self.leaning = leanings(rows)
        self.sheets = {}
        for work, hand, mark in rows:
            self.sheets.setdefault(work, {})[hand] = mark
        marks = [self.mark(work, self.sheets[work]) for work in sorted(self.sheets)]
        self.borders = borders(marks, cuts(marks, bounds))

    def mark(self, work, sheet):
        levels = [minus((mark, 1), self.leaning.get(hand, (0, 1))) for hand, mark in sheet.items()]
        try:
            return self.scale.scaled(worth(self.rule, levels, self.gap))
        except (Apart, Few) as refusal:
            raise Open(work, isinstance(refusal, Apart))

    def row(self, work):
        mark = self.mark(work, self.sheets[work])
        return (work, mark, grade(self.borders, mark))

    def table(self):
        return [self.row(work) for work in sorted(self.sheets)]

    def change(self, work, hand, mark):
        # A mark of None takes the hand's mark back, a hand of None withdraws the work.
        if work not in self.sheets:
            raise NoWork("model")
        if hand is None:
            self.sheets.pop(work)
            return [work]
        sheet = dict(self.sheets[work])
        if mark is None and hand not in sheet:
            raise Missing("model")
        sheet[hand] = mark
        if mark is None:
            sheet.pop(hand)
        before = self.row(work)
        self.mark(work, sheet)
        self.sheets[work] = sheet
        return [] if self.row(work) == before else [work]


def outcome(ask, *handed):
    # What is told, or the refusal with its values.
    try:
        return ask(*handed)
    except Open as refusal:
        return (Open, refusal.work, refusal.apart)
    except Barred as refusal:
        return (Barred, refusal.reach)
    except HallError as refusal:
        return type(refusal)


def change(sitting, work, hand, mark):
    if hand is None:
        return sitting.withdraw(work)
    return sitting.take_back(work, hand) if mark is None else sitting.appeal(work, hand, mark)


class Case(unittest.TestCase):
    def assert_form(self, sitting):
        self.assertIs(type(sitting.table()), list)
        for row in sitting.table():
            self.assertEqual([type(part) for part in (row,) + row], [tuple, str, tuple, int])
            self.assert_fraction(row[1])
        for border in sitting.borders():
            if border is not None:
                self.assert_fraction(border)

    def assert_fraction(self, told):
        self.assertEqual([type(part) for part in (told,) + told], [tuple, int, int])
        self.assertEqual((told[1] > 0, gcd(*told)), (True, 1))

    def assert_table(self, sitting, wanted):
        self.assert_form(sitting)
        self.assertEqual(sitting.table(), [(work, pair(mark), number) for work, mark, number in wanted])

    def assert_refused(self, refusal, ask, *handed):
        with self.assertRaises(refusal) as taken:
            ask(*handed)
        self.assertIs(type(taken.exception), refusal)
        self.assertEqual(refusal.__bases__, (HallError,))
        return taken.exception

    def assert_opened(self, work, apart, ask, *handed):
        refusal = self.assert_refused(Open, ask, *handed)
        self.assertEqual(refusal.work, work)
        self.assertIs(refusal.apart, apart)

    def assert_told(self, told, wanted):
        self.assertIs(type(told), list)
        self.assertEqual(told, wanted)


class Settled(Case):
    def test_each_works_mark_and_grade(self):
        for rule in RULES:
            sitting = made(rule=rule)
            self.assert_form(sitting)
            self.assertEqual(sitting.table(), SETTLED)
            self.assertEqual(sitting.borders(), [(70, 1), (50, 1)])

    def test_mark_and_grade_of_one_work(self):
        sitting = made()
        self.assertEqual([sitting.mark(work) for work in ("ode", "lay", "air")], [(70, 1), (50, 1), (30, 1)])
        self.assertEqual([sitting.grade(work) for work in ("ode", "lay", "air")], [0, 1, 2])

    def test_leanings(self):
        sitting = made()
        self.assertEqual([sitting.leaning(hand) for hand in ("ann", "bob", "cat")], [(1, 1), (-2, 1), (3, 1)])

    def test_a_hand_that_has_no_leaning(self):
        for hand in ("dan", "ode", "", "no name at all", "ANN"):
            self.assertEqual(made().leaning(hand), (0, 1))

    def test_the_rule_is_held_to(self):
        rows = [("ode", "ann", 0), ("ode", "bob", 1), ("ode", "cat", 8)]
        # The leanings even out all marks of one work: what is left is their mean.
        for rule in RULES:
            self.assert_table(made(rows, rule, bounds=[(0, 9)]), [("ode", 30, 0)])
        rows = [("ode", "ann", 6), ("ode", "bob", 0), ("ode", "cat", 0), ("lay", "ann", 0), ("lay", "bob", 6),
                ("lay", "cat", 0), ("air", "ann", 0), ("air", "bob", 0), ("air", "cat", 0)]
        # ann and bob lean by 2/3, cat by -4/3.
        self.assert_table(made(rows, "mean", bounds=[(0, 9)]), [("air", 0, 0), ("lay", 20, 0), ("ode", 20, 0)])
        self.assert_table(made(rows, "middle", bounds=[(0, 9)]),
                          [("air", 0, 0), ("lay", Fraction(40, 3), 0), ("ode", Fraction(40, 3), 0)])
        self.assert_table(made(rows, "pair", bounds=[(0, 9)], scale=[(-1, -10), (10, 100)]),
                          [("air", Fraction(-20, 3), 0), ("lay", Fraction(10, 3), 0), ("ode", Fraction(10, 3), 0)])

    def test_the_scale_is_held_to(self):
        level = made(scale=[(4, 10), (6, 20)])
        self.assert_table(level, [("air", 10, 2), ("lay", 15, 1), ("ode", 20, 0)])
        parts = made(scale=[(Fraction(-1, 2), Fraction(-1, 3)), (20, 0)])
        self.assert_table(parts, [("air", Fraction(-34, 123), 2), ("lay", Fraction(-10, 41), 1),
                                  ("ode", Fraction(-26, 123), 0)])

    def test_grades_are_dealt_by_the_scaled_marks(self):
        # Scaled, ode and lay are alike, so no grade of one work can be dealt.
        flat = [(0, 0), (5, 50), (9, 50)]
        self.assert_table(made(scale=flat, bounds=[(0, 1), (0, 9)]), [("air", 30, 1), ("lay", 50, 1), ("ode", 50, 1)])
        self.assert_table(made(scale=flat, bounds=[(1, 2), (0, 9)]), [("air", 30, 1), ("lay", 50, 0), ("ode", 50, 0)])

    def test_the_bounds_are_held_to(self):
        self.assertEqual([row[2] for row in made(bounds=[(0, 9)]).table()], [0, 0, 0])
        self.assertEqual([row[2] for row in made(bounds=[(0, 2), (0, 2)]).table()], [1, 0, 0])
        self.assertEqual([row[2] for row in made(bounds=[(0, 9), (2, 2)]).table()], [1, 1, 0])
        self.assertEqual([row[2] for row in made(bounds=[(0, 0), (0, 9), (0, 9)]).table()], [1, 1, 1])
        self.assertEqual(made(bounds=[(0, 0), (0, 9), (0, 9)]).borders(), [None, (30, 1)])
        self.assertEqual(made(bounds=[(0, LONG)]).borders(), [])

    def test_the_gap_is_held_against_levelled_marks(self):
        # The plain marks lie 3 apart, levelled ones 0.
        self.assertEqual(made(rule="pair", gap=0).table(), SETTLED)
        # Plain marks of lay lie 0 apart; ann leans by 3, bob by -3, so levelled ones lie 6 apart.
        rows = [("lay", "ann", 5), ("lay", "bob", 5), ("ode", "ann", 12), ("ode", "bob", 0)]
        self.assert_opened("lay", True, made, rows, "pair", Fraction(59, 10))
        self.assert_table(made(rows, "pair", 6, bounds=[(0, 9)]), [("lay", 50, 0), ("ode", 60, 0)])

    def test_the_table_is_sorted_by_work(self):
        names = ["a", "aa", "aaa", "ab", "b", "ba"]
        rows = [(work, "ann", place) for place, work in enumerate(names)]
        for order in (rows, rows[::-1], rows[3:] + rows[:3]):
            self.assertEqual([row[0] for row in made(order, bounds=[(0, 9)]).table()], names)

    def test_no_rows(self):
        sitting = made([], bounds=[(0, 60)])
        self.assertEqual((sitting.table(), sitting.borders(), sitting.leaning("ann")), ([], [], (0, 1)))
        self.assertEqual(made([], rule="pair", bounds=[(0, 0), (0, 1), (0, 2)]).borders(), [None, None])
        self.assertEqual(self.assert_refused(Barred, made, [], "mean", 0, TENFOLD, [(1, 2)]).reach, [[0], []])
        for ask in (sitting.mark, sitting.grade, sitting.withdraw):
            self.assert_refused(NoWork, ask, "ode")

    def test_a_work_that_is_not_there(self):
        sitting = made()
        for work in ("", "od", "odes", "ann", "ODE", "no name at all"):
            self.assert_refused(NoWork, sitting.mark, work)
            self.assert_refused(NoWork, sitting.grade, work)

    def test_the_arguments_have_their_names(self):
        sitting = Sitting(rows=PANEL, rule="mean", gap=(0, 1), scale=scale_of(TENFOLD), bounds=THREE)
        self.assertEqual((sitting.mark(work="air"), sitting.grade(work="air")), ((30, 1), 2))
        self.assertEqual(sitting.leaning(hand="cat"), (3, 1))
        self.assertEqual(sitting.appeal(work="air", hand="cat", mark=9), ["air"])
        self.assertEqual(sitting.take_back(work="air", hand="cat"), ["air"])
        self.assertEqual(sitting.withdraw(work="air"), ["air"])

    def test_very_great_marks(self):
        rows = [("ode", "ann", LONG), ("ode", "bob", LONG - 2), ("lay", "ann", 2), ("lay", "bob", 0)]
        sitting = made(rows, scale=[(0, 0), (LONG, LONG)], bounds=[(1, 1), (1, 1)])
        self.assert_table(sitting, [("lay", 1, 1), ("ode", LONG - 1, 0)])
        self.assertEqual(sitting.appeal("lay", "bob", LONG), ["lay"])
        self.assert_table(sitting, [("lay", Fraction(LONG + 2, 2), 1), ("ode", LONG - 1, 0)])

    def test_drawn_ones_by_the_stages_beneath(self):
        chance = random.Random(16)
        seen = set()
        for turn in range(400):
            rows = drawn_rows(chance, ("w" + sign for sign in "abcdef"), HANDS[:4], chance.choice((0.3, 0.7)), 6)
            handed = (rows, chance.choice(RULES), pair(chance.choice((0, 1, 3))), scale_of([(1, 1), (3, 3), (4, 9)]),
                      [(0, chance.randrange(1, 5)) for place in range(chance.randrange(1, 5))])
            wanted = outcome(lambda *parts: held_of_model(Model(*parts)), *handed)
            self.assertEqual(outcome(lambda *parts: held(Sitting(*parts)), *handed), wanted)
            seen.add((wanted[0], wanted[2]) if wanted[0] is Open else wanted[0] if wanted[0] is Barred else "settled")
        self.assertEqual(seen, {(Open, True), (Open, False), Barred, "settled"})


def held_of_model(model):
    return (model.table(), model.borders, [model.leaning.get(hand, (0, 1)) for hand in HANDS])


class Refused(Case):
    # By "pair" with a gap of 0: ode and lay stand, each other work is refused.
    STANDING = [("ode", "ann", 5), ("ode", "bob", 5), ("lay", "ann", 4), ("lay", "bob", 4)]
    ALONE = [("psalm", "cat", 5)]
    TWO_APART = [("song", "dan", 1), ("song", "eve", 9), ("tune", "dan", 9), ("tune", "eve", 1)]

    def assert_open(self, rows, work, apart, bounds=THREE):
        for order in (rows, rows[::-1], sorted(rows), sorted(rows, key=lambda row: row[1:])):
            self.assert_opened(work, apart, made, order, "pair", 0, TENFOLD, bounds)

    def test_few(self):
        self.assert_open(self.ALONE, "psalm", False)
        self.assert_open(self.STANDING + self.ALONE, "psalm", False)

    def test_apart(self):
        self.assert_open(self.TWO_APART, "song", True)
        self.assert_open(self.STANDING + self.TWO_APART, "song", True)

    def test_the_first_one_by_name(self):
        self.assert_open(self.STANDING + self.ALONE + self.TWO_APART, "psalm", False)
        self.assert_open(self.STANDING + self.TWO_APART + [("zeal", "cat", 5)], "song", True)
        self.assert_open([(work, "ann", 1) for work in ("b", "ab", "aa", "a", "ba")], "a", False)

    def test_open_is_told_ahead_of_barred(self):
        self.assert_open(self.ALONE, "psalm", False, [(5, 5)])
        self.assert_open(self.STANDING + self.TWO_APART, "song", True, [(2, 1)])

    def test_barred(self):
        refusal = self.assert_refused(Barred, made, PANEL, "mean", 0, TENFOLD, [(1, 1), (1, 1)])
        self.assertEqual(refusal.reach, [[0], [1], [2]])
        refusal = self.assert_refused(Barred, made, PANEL, "mean", 0, TENFOLD, [(2, 3), (2, 9)])
        self.assertEqual(refusal.reach, [[0], [2, 3], []])
        refusal = self.assert_refused(Barred, made, self.STANDING, "mean", 0, [(8, 8), (9, 9)], [(1, 1), (1, 1)])
        self.assertEqual(refusal.reach, [[0], [], []])

    def test_the_reach_is_the_askers_own(self):
        for turn in range(2):
            refusal = self.assert_refused(Barred, made, PANEL, "mean", 0, TENFOLD, [(1, 1), (1, 1)])
            self.assertEqual(refusal.reach, [[0], [1], [2]])
            refusal.reach[1].append(9)
            refusal.reach.clear()


class Kept(Case):
    def test_rows_and_bounds_stay(self):
        rows, bounds, points = list(PANEL), list(THREE), [((0, 1), (0, 1)), ((10, 1), (100, 1))]
        sitting = Sitting(rows, "mean", (0, 1), Scale(points), bounds)
        sitting.appeal("air", "ann", 10)
        sitting.take_back("lay", "ann")
        sitting.withdraw("ode")
        self.assertEqual((rows, bounds), (PANEL, THREE))
        self.assertEqual(points, [((0, 1), (0, 1)), ((10, 1), (100, 1))])

    def test_what_is_changed_afterwards_changes_nothing(self):
        rows, bounds, points = list(PANEL), list(THREE), [((0, 1), (0, 1)), ((10, 1), (100, 1))]
        scale = Scale(points)
        sitting = Sitting(rows, "mean", (0, 1), scale, bounds)
        before = held(sitting)
        rows.append(("new", "ann", 3))
        rows[0] = ("ode", "ann", 0)
        bounds[0] = (0, 9)
        points.clear()
        scale.__init__([((0, 1), (0, 1)), ((1, 1), (1, 1))])
        self.assertEqual(held(sitting), before)
        rows.clear()
        bounds.clear()
        self.assertEqual(held(sitting), before)
        self.assert_refused(NoWork, sitting.mark, "new")
        self.assertEqual(sitting.appeal("air", "ann", 8), ["air"])
        self.assertEqual((sitting.mark("air"), sitting.grade("air")), ((50, 1), 1))
        self.assertEqual(sitting.appeal("ode", "ann", 8), [])

    def test_told_lists_are_the_askers_own(self):
        sitting = made()
        before = held(sitting)
        for told in (sitting.table(), sitting.borders(), sitting.appeal("ode", "ann", 8)):
            told.append("more")
            told.reverse()
            told.clear()
        self.assertEqual(held(sitting), before)
        told = sitting.withdraw("ode")
        told.clear()
        self.assertEqual([row[0] for row in sitting.table()], ["air", "lay"])

    def test_a_list_of_borders_changed_changes_no_grade(self):
        sitting = made()
        sitting.borders()[0] = (0, 1)
        self.assertEqual(sitting.grade("air"), 2)
        self.assertEqual(sitting.appeal("lay", "dan", 9), ["lay"])
        self.assertEqual(sitting.grade("lay"), 1)

    def test_sittings_know_nothing_of_one_another(self):
        rows, bounds, scale = list(PANEL), list(THREE), scale_of(TENFOLD)
        one, other = [Sitting(rows, "mean", (0, 1), scale, bounds) for turn in range(2)]
        one.appeal("air", "ann", 10)
        one.withdraw("ode")
        self.assertEqual(other.table(), SETTLED)
        self.assertEqual(len(one.table()), 2)


class Appeal(Case):
    def assert_changes(self, sitting, ask, handed, work, mark, number):
        # The one work has its new mark and grade; all else stays.
        table, some, leaning = held(sitting)
        self.assert_told(ask(*handed), [work])
        wanted = [row if row[0] != work else (work, pair(mark), number) for row in table]
        self.assert_form(sitting)
        self.assertEqual(held(sitting), (wanted, some, leaning))
        self.assertEqual((sitting.mark(work), sitting.grade(work)), (pair(mark), number))

    def assert_changes_nothing(self, sitting, ask, *handed):
        before = held(sitting)
        self.assert_told(ask(*handed), [])
        self.assertEqual(held(sitting), before)

    def assert_refused_for_nothing(self, sitting, refusal, ask, *handed):
        before = held(sitting)
        self.assert_refused(refusal, ask, *handed)
        self.assertEqual(held(sitting), before)

    def test_by_a_hand_that_marked_the_work(self):
        sitting = made()
        self.assert_changes(sitting, sitting.appeal, ("air", "ann", 8), "air", 50, 1)
        self.assert_changes(sitting, sitting.appeal, ("air", "bob", 5), "air", 70, 0)
        self.assert_changes(sitting, sitting.appeal, ("ode", "cat", 1), "ode", 40, 2)
        self.assert_changes(sitting, sitting.appeal, ("lay", "ann", 5), "lay", 45, 2)

    def test_by_a_hand_that_marked_other_works(self):
        # cat leans by 3, as it did when all was settled.
        sitting = made()
        self.assert_changes(sitting, sitting.appeal, ("air", "cat", 9), "air", 40, 2)
        self.assert_changes(sitting, sitting.appeal, ("lay", "cat", 17), "lay", 80, 0)
        sitting = made()
        self.assert_changes_nothing(sitting, sitting.appeal, "air", "cat", 6)

    def test_by_a_new_hand(self):
        sitting = made()
        self.assert_changes(sitting, sitting.appeal, ("air", "dan", 9), "air", 50, 1)
        self.assertEqual(sitting.leaning("dan"), (0, 1))
        self.assert_changes(sitting, sitting.appeal, ("air", "eve", 0), "air", Fraction(75, 2), 2)
        self.assert_changes(sitting, sitting.appeal, ("air", "dan", 3), "air", Fraction(45, 2), 2)
        self.assert_changes(sitting, sitting.appeal, ("lay", "dan", 11), "lay", 70, 0)

    def test_the_same_mark_again(self):
        sitting = made()
        for work, hand, mark in PANEL:
            self.assert_changes_nothing(sitting, sitting.appeal, work, hand, mark)

    def test_there_and_back(self):
        sitting = made()
        self.assert_changes(sitting, sitting.appeal, ("air", "ann", 8), "air", 50, 1)
        self.assert_changes(sitting, sitting.appeal, ("air", "ann", 4), "air", 30, 2)
        self.assertEqual(sitting.table(), SETTLED)

    def test_another_mark_in_the_same_grade_is_told(self):
        sitting = made()
        self.assert_changes(sitting, sitting.appeal, ("air", "ann", 3), "air", 25, 2)
        self.assert_changes(sitting, sitting.appeal, ("ode", "ann", 11), "ode", 80, 0)

    def test_bounds_are_not_asked_again(self):
        sitting = made()
        self.assert_changes(sitting, sitting.appeal, ("air", "ann", 20), "air", 100, 0)
        self.assert_changes(sitting, sitting.appeal, ("lay", "ann", 20), "lay", 100, 0)
        self.assertEqual([row[2] for row in sitting.table()], [0, 0, 0])

    def test_a_mark_that_the_scale_hides_is_kept_all_the_same(self):
        sitting = made(scale=[(4, 40), (7, 70)])
        self.assert_changes_nothing(sitting, sitting.appeal, "air", "dan", 0)
        self.assert_changes_nothing(sitting, sitting.appeal, "air", "dan", 4)
        self.assert_changes(sitting, sitting.appeal, ("air", "ann", 9), "air", 50, 1)
        self.assert_changes(sitting, sitting.take_back, ("air", "dan"), "air", 55, 1)

    def test_with_no_border_to_come_under(self):
        sitting = made(bounds=[(0, 0), (0, 9)])
        self.assertEqual(sitting.borders(), [None])
        self.assert_changes(sitting, sitting.appeal, ("air", "ann", 20), "air", 100, 1)

    def test_a_mark_taken_back(self):
        sitting = made()
        self.assert_changes_nothing(sitting, sitting.take_back, "ode", "cat")
        self.assert_changes(sitting, sitting.appeal, ("ode", "ann", 2), "ode", 40, 2)
        self.assert_changes(sitting, sitting.take_back, ("ode", "ann"), "ode", 70, 0)
        self.assert_changes(sitting, sitting.appeal, ("ode", "ann", 6), "ode", 60, 1)

    def test_a_hand_without_marks_keeps_its_leaning(self):
        sitting = made()
        sitting.take_back("ode", "cat")
        self.assertEqual(sitting.leaning("cat"), (3, 1))
        self.assert_changes(sitting, sitting.appeal, ("air", "cat", 12), "air", 50, 1)

    def test_the_last_mark_is_not_taken_back(self):
        sitting = made()
        self.assert_changes_nothing(sitting, sitting.take_back, "air", "bob")
        for turn in range(2):
            before = held(sitting)
            self.assert_opened("air", False, sitting.take_back, "air", "ann")
            self.assertEqual(held(sitting), before)
        self.assert_changes(sitting, sitting.appeal, ("air", "ann", 5), "air", 40, 2)

    def test_open_by_pair(self):
        sitting = made(rule="pair", gap=1)
        before = held(sitting)
        self.assert_opened("air", True, sitting.appeal, "air", "ann", 6)
        self.assert_opened("air", True, sitting.appeal, "air", "bob", 3)
        self.assert_opened("air", False, sitting.take_back, "air", "ann")
        self.assert_opened("lay", True, sitting.appeal, "lay", "ann", 3)
        self.assertEqual(held(sitting), before)
        self.assert_changes(sitting, sitting.appeal, ("air", "ann", 5), "air", 35, 2)

    def test_what_is_refused_leaves_the_marks_beneath_as_they_were(self):
        sitting = made(rule="pair", gap=1)
        self.assert_opened("air", True, sitting.appeal, "air", "ann", 9)
        self.assert_opened("air", False, sitting.take_back, "air", "bob")
        # With the refused mark of 9, levelled 8, dan's would be nearest to it.
        self.assert_changes_nothing(sitting, sitting.appeal, "air", "dan", 8)
        self.assert_opened("air", True, sitting.take_back, "air", "ann")
        self.assert_changes_nothing(sitting, sitting.take_back, "air", "dan")

    def test_a_third_mark_where_two_would_lie_apart(self):
        sitting = made(rule="pair", gap=0)
        self.assert_changes_nothing(sitting, sitting.appeal, "air", "dan", 6)
        self.assert_changes(sitting, sitting.appeal, ("air", "ann", 7), "air", 60, 1)
        self.assert_opened("air", True, sitting.take_back, "air", "dan")

    def test_no_work(self):
        sitting = made()
        for work in ("", "od", "odes", "ann", "ODE"):
            self.assert_refused_for_nothing(sitting, NoWork, sitting.appeal, work, "ann", 5)
            self.assert_refused_for_nothing(sitting, NoWork, sitting.take_back, work, "ann")
            self.assert_refused_for_nothing(sitting, NoWork, sitting.take_back, work, "nobody")
            self.assert_refused_for_nothing(sitting, NoWork, sitting.withdraw, work)

    def test_missing(self):
        sitting = made(rule="pair", gap=0)
        for hand in ("cat", "dan", "", "air", "ANN"):
            self.assert_refused_for_nothing(sitting, Missing, sitting.take_back, "air", hand)
        sitting.take_back("ode", "cat")
        self.assert_refused_for_nothing(sitting, Missing, sitting.take_back, "ode", "cat")

    def test_missing_ahead_of_open(self):
        sitting = made()
        sitting.take_back("air", "ann")
        self.assert_refused_for_nothing(sitting, Missing, sitting.take_back, "air", "ann")
        self.assert_refused_for_nothing(sitting, Open, sitting.take_back, "air", "bob")


class Withdrawn(Case):
    def test_it_is_there_no_more(self):
        sitting = made()
        self.assert_told(sitting.withdraw("lay"), ["lay"])
        self.assertEqual(sitting.table(), [SETTLED[0], SETTLED[2]])
        for turn in range(2):
            before = held(sitting)
            for ask in (sitting.mark, sitting.grade, sitting.withdraw):
                self.assert_refused(NoWork, ask, "lay")
            self.assert_refused(NoWork, sitting.appeal, "lay", "ann", 6)
            self.assert_refused(NoWork, sitting.take_back, "lay", "ann")
            self.assert_refused(NoWork, sitting.take_back, "lay", "nobody")
            self.assertEqual(held(sitting), before)
            sitting.appeal("air", "dan", 9)

    def test_leanings_and_borders_stay(self):
        sitting = made()
        for work in ("ode", "lay"):
            before = held(sitting)
            sitting.withdraw(work)
            self.assertEqual(held(sitting)[1:], before[1:])
        self.assertEqual(sitting.table(), SETTLED[:1])
        self.assertEqual(sitting.appeal("air", "ann", 8), ["air"])
        self.assertEqual(sitting.table(), [("air", (50, 1), 1)])

    def test_all_of_them(self):
        for order in itertools.permutations(("ode", "lay", "air")):
            sitting = made()
            self.assertEqual([sitting.withdraw(work) for work in order], [[work] for work in order])
            self.assertEqual((sitting.table(), sitting.borders()), ([], [(70, 1), (50, 1)]))

    def test_one_that_was_appealed(self):
        sitting = made()
        sitting.appeal("air", "ann", 8)
        self.assertEqual(sitting.withdraw("air"), ["air"])
        self.assertEqual(sitting.table(), SETTLED[1:])


class DrawnChanges(Case):
    def drawn_change(self, chance, works):
        work, hand = chance.choice(works), chance.choice(HANDS)
        kind = chance.choice(("appeal", "appeal", "appeal", "back", "back", "back", "withdraw"))
        if kind == "withdraw" and chance.random() < 0.7:
            kind = "appeal"
        return (work, None if kind == "withdraw" else hand, chance.randrange(9) if kind == "appeal" else None)

    def test_held_against_the_stages_beneath(self):
        chance = random.Random(17)
        works = ["w" + sign for sign in "abcde"]
        seen = set()
        for turn in range(60):
            rows = drawn_rows(chance, works, HANDS[:4], 0.9, 8)
            handed = (rows, chance.choice(RULES), (3, 1), scale_of([(1, 1), (3, 3), (4, 9), (5, 9), (6, 12)]),
                      [(0, 2), (0, 2), (0, 5)])
            if outcome(Model, *handed).__class__ is not Model:
                continue
            sitting, model = Sitting(*handed), Model(*handed)
            for step in range(40):
                asked = self.drawn_change(chance, works)
                before, wanted = held(sitting), outcome(model.change, *asked)
                told = outcome(change, sitting, *asked)
                self.assertEqual(told, wanted)
                self.assertEqual(held(sitting), held_of_model(model))
                self.assertEqual(held(sitting)[1:], before[1:])
                stayed = [row for row in before[0] if row[0] != asked[0]]
                self.assertEqual([row for row in held(sitting)[0] if row[0] != asked[0]], stayed)
                seen.add(told[0::2] if isinstance(told, tuple) else told if isinstance(told, type) else len(told))
        self.assertEqual(seen, {0, 1, NoWork, Missing, (Open, True), (Open, False)})


class Large(Case):
    def test_sixty_works_twelve_hands_twelve_grades(self):
        chance = random.Random(160)
        works = ["w" + one + other for one in "abcdef" for other in "abcdefghij"]
        hands = ["h" + sign for sign in "abcdefghijkl"]
        rows = drawn_rows(chance, works, hands, 1, 10 ** 6)
        sitting = made(rows, bounds=[(5, 5)] * 12, scale=[(0, 0), (10 ** 6, 10 ** 7)])
        wanted = {}
        for work, hand, mark in levelled(rows):
            wanted[work] = wanted.get(work, 0) + Fraction(*mark)
        self.assertEqual([row[:2] for row in sitting.table()], [(work, pair(wanted[work] / 12 * 10)) for work in works])
        grades = [row[2] for row in sorted(sitting.table(), key=lambda row: Fraction(*row[1]), reverse=True)]
        self.assertEqual(grades, [place // 5 for place in range(60)])


if __name__ == "__main__":
    unittest.main()
