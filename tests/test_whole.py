"""What the document promises over the whole program, asked of all its parts together."""

import importlib
import inspect
import itertools
import random
import unittest
from fractions import Fraction

from hall.desk import Desk
from hall.errors import Barred, HallError, Open
from hall.groups import groups
from hall.leanings import leanings, levelled
from hall.rules import worth
from hall.scales import Scale
from hall.sittings import Sitting

RULES = ("mean", "middle", "pair")
WORKS = ["w" + sign for sign in "abcdefg"]
HANDS = ["h" + sign for sign in "abcd"]
# Wide enough that no levelled mark lies beyond it.
WIDE = Scale([((-1000, 1), (-1000, 1)), ((1000, 1), (1000, 1))])
INTERFACE = {
    "fractions": {"fraction": ["top", "bottom"], "plus": ["one", "other"], "minus": ["one", "other"],
                  "times": ["one", "other"], "over": ["one", "other"], "under": ["one", "other"], "total": ["some"],
                  "mean": ["some"]},
    "books": {"Book": ["most"], "Book.put": ["work", "hand", "mark"], "Book.drop": ["work", "hand"], "Book.rows": [],
              "Book.works": [], "Book.hands": []},
    "systems": {"solved": ["rows", "rights"]},
    "groups": {"groups": ["rows"]},
    "leanings": {"leanings": ["rows"], "levelled": ["rows"]},
    "rules": {"worth": ["rule", "marks", "gap"]},
    "scales": {"Scale": ["points"], "Scale.scaled": ["x"]},
    "shares": {"ends": ["marks"], "reach": ["some", "bounds"], "cuts": ["marks", "bounds"]},
    "borders": {"borders": ["marks", "counts"], "grade": ["some", "mark"], "is_near": ["some", "width", "mark"]},
    "sittings": {"Sitting": ["rows", "rule", "gap", "scale", "bounds"], "Sitting.table": [], "Sitting.mark": ["work"],
                 "Sitting.grade": ["work"], "Sitting.leaning": ["hand"], "Sitting.borders": [],
                 "Sitting.appeal": ["work", "hand", "mark"], "Sitting.take_back": ["work", "hand"],
                 "Sitting.withdraw": ["work"]},
    "desk": {"Desk": ["most"], "Desk.say": ["row"]},
    "errors": {"Barred": ["reach"], "Open": ["work", "apart"]},
}


def drawn_rows(chance, share=0.6, size=9):
    rows = [(work, hand, chance.randrange(size + 1)) for work in WORKS for hand in HANDS if chance.random() < share]
    chance.shuffle(rows)
    return rows


def drawn_scale(chance):
    number = chance.randrange(2, 6)
    xs = sorted(chance.sample(range(-4, 14), number))
    ys = sorted([chance.randrange(-5, 6) for place in range(number)])
    return Scale([((x, 1), Fraction(y, 3).as_integer_ratio()) for x, y in zip(xs, ys)])


def drawn_bounds(chance):
    return [(chance.choice((0, 0, 1, 2)), chance.randrange(1, 5)) for place in range(chance.randrange(1, 5))]


def worths(rows, rule, gap):
    marks = {}
    for work, hand, mark in levelled(rows):
        marks.setdefault(work, []).append(mark)
    return {work: Fraction(*worth(rule, some, gap)) for work, some in marks.items()}


def dealings(marks, bounds):
    # All ways to give each work a grade by which a greater mark has no worse one, alike marks
    # have the same, and each grade's number is within its bounds: their counts.
    order = sorted(marks, reverse=True)
    for grades in itertools.combinations_with_replacement(range(len(bounds)), len(order)):
        alike = all([one != other or first == second for one, other, first, second
                     in zip(order, order[1:], grades, grades[1:])])
        if alike and all([least <= grades.count(place) <= most for place, (least, most) in enumerate(bounds)]):
            yield [grades.count(place) for place in range(len(bounds))]


def told_of(sitting):
    return (sitting.table(), sitting.borders(), [sitting.leaning(hand) for hand in HANDS])


def outcome(*handed):
    try:
        return told_of(Sitting(*handed))
    except Open as refusal:
        return (refusal.work, refusal.apart)
    except Barred as refusal:
        return refusal.reach


class Settled(unittest.TestCase):
    def settled(self, seed, turns):
        # Drawn sittings that are not refused, each with what it was made of.
        chance = random.Random(seed)
        for turn in range(turns):
            handed = (drawn_rows(chance), chance.choice(RULES), (chance.randrange(8), 1), drawn_scale(chance),
                      drawn_bounds(chance))
            try:
                yield chance, Sitting(*handed), handed
            except HallError:
                continue

    def test_rows_in_any_order_tell_the_same(self):
        chance = random.Random(3)
        for turn in range(60):
            rows, rest = drawn_rows(chance), (chance.choice(RULES), (2, 1), drawn_scale(chance), drawn_bounds(chance))
            wanted = (leanings(rows), groups(rows), sorted(levelled(rows)), outcome(rows, *rest))
            for order in (sorted(rows), rows[::-1], sorted(rows, key=lambda row: row[::-1]),
                          chance.sample(rows, len(rows))):
                told = (leanings(order), groups(order), sorted(levelled(order)), outcome(order, *rest))
                self.assertEqual(told, wanted)

    def test_the_order_of_what_is_put_does_not_matter(self):
        chance = random.Random(31)
        rows = drawn_rows(chance, 0.8)
        told = []
        for turn in range(10):
            desk = Desk(9)
            for work, hand, mark in chance.sample(rows, len(rows)):
                desk.say(f"put {work} {hand} {mark}")
            desk.say("grades 0-2 0-2 0-9")
            desk.say("settle")
            told.append([desk.say(f"{word} {work}") for word in ("mark", "grade") for work in WORKS])
            told[-1] += [desk.say(f"leaning {hand}") for hand in HANDS]
        self.assertEqual(told, told[:1] * 10)

    def test_the_sum_of_all_marks_stays(self):
        chance = random.Random(32)
        for turn in range(60):
            rows = drawn_rows(chance)
            wanted = sum([mark for work, hand, mark in rows])
            self.assertEqual(sum([Fraction(*mark) for work, hand, mark in levelled(rows)]), wanted)
            sitting = Sitting(rows, "mean", (0, 1), WIDE, [(0, 60)])
            numbers = {work: len([row for row in rows if row[0] == work]) for work in WORKS}
            self.assertEqual(sum([numbers[work] * Fraction(*mark) for work, mark, number in sitting.table()]), wanted)

    def test_works_and_hands_come_out_even(self):
        chance = random.Random(33)
        for turn in range(60):
            rows = drawn_rows(chance)
            sitting = Sitting(rows, "mean", (0, 1), WIDE, [(0, 60)])
            rests = [(work, hand, mark - Fraction(*sitting.leaning(hand)) - Fraction(*sitting.mark(work)))
                     for work, hand, mark in rows]
            for name in WORKS + HANDS:
                self.assertEqual(sum([rest for work, hand, rest in rests if name in (work, hand)]), 0)

    def test_no_scale_lifts_one_work_over_another(self):
        seen = 0
        for chance, sitting, handed in self.settled(34, 600):
            seen += 1
            values = worths(*handed[:3])
            marks = {work: Fraction(*mark) for work, mark, number in sitting.table()}
            for one, other in itertools.permutations(values, 2):
                if values[one] <= values[other]:
                    self.assertLessEqual(marks[one], marks[other])
                    self.assertGreaterEqual(sitting.grade(one), sitting.grade(other))
        self.assertGreater(seen, 50)

    def test_grades_are_dealt_as_the_promise_says(self):
        seen = 0
        for chance, sitting, (rows, rule, gap, scale, bounds) in self.settled(35, 800):
            seen += 1
            marks = [Fraction(*mark) for work, mark, number in sitting.table()]
            grades = [number for work, mark, number in sitting.table()]
            for (one, first), (other, second) in itertools.permutations(zip(marks, grades), 2):
                self.assertTrue(first == second if one == other else first <= second if one > other else True)
            counts = [grades.count(place) for place in range(len(bounds))]
            self.assertEqual(counts, max(dealings(marks, bounds)))
        self.assertGreater(seen, 80)

    def test_or_the_reach_shows_that_it_cannot_be(self):
        chance = random.Random(36)
        seen = 0
        for turn in range(300):
            rows, scale, bounds = drawn_rows(chance), drawn_scale(chance), drawn_bounds(chance)
            try:
                Sitting(rows, "mean", (0, 1), scale, bounds)
            except Barred as refusal:
                seen += 1
                marks = [Fraction(*scale.scaled((value.numerator, value.denominator)))
                         for value in worths(rows, "mean", (0, 1)).values()]
                self.assertEqual(list(dealings(marks, bounds)), [])
                self.assertEqual(len(refusal.reach), len(bounds) + 1)
                self.assertNotIn(len(marks), refusal.reach[-1])
        self.assertGreater(seen, 80)

    def test_an_appeal_changes_no_work_but_its_own(self):
        for chance, sitting, handed in self.settled(37, 400):
            for step in range(20):
                work, hand, mark = chance.choice(WORKS), chance.choice(HANDS + ["new"]), chance.randrange(10)
                before = told_of(sitting)
                ask = chance.choice((lambda: sitting.appeal(work, hand, mark), lambda: sitting.take_back(work, hand),
                                     lambda: sitting.appeal(work, hand, mark), lambda: sitting.withdraw(work)))
                try:
                    told = ask()
                except HallError:
                    self.assertEqual(told_of(sitting), before)
                    continue
                after = told_of(sitting)
                self.assertEqual(after[1:], before[1:])
                self.assertEqual([row for row in after[0] if row[0] != work],
                                 [row for row in before[0] if row[0] != work])
                changed = [row[0] for row in before[0] if row not in after[0]]
                self.assertEqual(told, changed)


class Interface(unittest.TestCase):
    def test_every_name_has_its_arguments(self):
        for module, names in INTERFACE.items():
            for name, arguments in names.items():
                with self.subTest(module=module, name=name):
                    found = importlib.import_module("hall." + module)
                    for part in name.split("."):
                        found = getattr(found, part)
                    parameters = [one for one in inspect.signature(found).parameters if one != "self"]
                    self.assertEqual(parameters, arguments)

    def test_only_the_gap_may_be_left_out(self):
        for module, names in INTERFACE.items():
            for name in names:
                found = importlib.import_module("hall." + module)
                for part in name.split("."):
                    found = getattr(found, part)
                for parameter in inspect.signature(found).parameters.values():
                    left_out = parameter.default is not inspect.Parameter.empty
                    self.assertEqual(left_out, (name, parameter.name) == ("worth", "gap"), name)


if __name__ == "__main__":
    unittest.main()
