import copy
import random
import re
import unittest
from fractions import Fraction
from math import gcd

from hall.books import Book
from hall.desk import Desk
from hall.errors import (Barred, HallError, Missing, NoMark, NoName, NoRow, NoScale, NoSitting, NoWork, Open, Twice)
from hall.scales import Scale
from hall.sittings import Sitting

# ann leans by 1, bob by -2, cat by 3; levelled, all marks of ode are 7, of lay 5, of air 3.
PANEL = ("put ode ann 8", "put ode bob 5", "put ode cat 10", "put lay ann 6", "put lay bob 3", "put air ann 4",
         "put air bob 1")
LAID = ("scale 0,0 10,100", "grades 1-1 1-1 0-9")
WORKS = ("air", "lay", "ode", "psalm")
HANDS = ("ann", "bob", "cat", "dan")
ASKED = (["rows"] + [f"{word} {work}" for word in ("mark", "grade") for work in WORKS]
         + [f"leaning {hand}" for hand in HANDS])
# With a new mark for each work, marks that no row tells by themselves come to light.
STIRRED = [f"appeal {work} zed 1" for work in WORKS] + [f"back {work} {hand}" for work in WORKS for hand in HANDS]
OF_THE_SITTING = ("mark ode", "grade ode", "leaning ann", "appeal ode ann 5", "back ode ann", "withdraw ode")
NO_NAMES = ("A", "aB", "ANN", "a1", "1", "0", "abcdefghi", "a-b", "a,b", "a/b", "-", "~", "`", "{", "!", "a.", '"a"',
            "\\", "'")
FIGURES = "999999999999"

WHOLE = r"(0|[1-9][0-9]{0,11})"


def outcome(ask, *handed):
    # What is told, or the refusal with its values.
    try:
        return ask(*handed)
    except Open as refusal:
        return (Open, refusal.work, refusal.apart)
    except Barred as refusal:
        return (Barred, refusal.reach)
    except HallError as refusal:
        return type(refusal)


def held(desk):
    # The sitting, the marks beneath it, and what a settle would make of all that is laid.
    told = [outcome(desk.say, row) for row in ASKED]
    for rows in (STIRRED, ["settle"]):
        other = copy.deepcopy(desk)
        told += [outcome(other.say, row) for row in rows] + [outcome(other.say, row) for row in ASKED]
    return told


def panel(*rows, most=10):
    desk = Desk(most)
    for row in PANEL + LAID + rows:
        desk.say(row)
    return desk


def is_whole(word):
    return re.fullmatch(WHOLE, word) is not None


def is_fraction(word):
    if re.fullmatch(f"-?{WHOLE}(/{WHOLE})?", word) is None or word == "-0":
        return False
    parts = [int(part) for part in word.split("/")]
    return len(parts) == 1 or (parts[1] > 1 and gcd(*parts) == 1)


def is_point(word):
    return word.count(",") == 1 and all([is_fraction(part) for part in word.split(",")])


def is_bound(word):
    return re.fullmatch(f"{WHOLE}-{WHOLE}", word) is not None


def is_gap(word):
    return is_fraction(word) and not word.startswith("-")


def is_rule(word):
    return word in ("mean", "middle", "pair")


def is_word(word):
    return word != ""


KINDS = {"put": (is_word, is_word, is_whole), "drop": (is_word, is_word), "rule": (is_rule, is_gap), "settle": (),
         "rows": (), "mark": (is_word,), "grade": (is_word,), "leaning": (is_word,),
         "appeal": (is_word, is_word, is_whole), "back": (is_word, is_word), "withdraw": (is_word,)}


def is_row(row):
    # The rows of the interface, told a second time by another way of reading.
    first, *rest = row.split(" ")
    if first == "scale":
        return len(rest) > 1 and all([is_point(word) for word in rest])
    if first == "grades":
        return len(rest) > 0 and all([is_bound(word) for word in rest])
    kinds = KINDS.get(first)
    return kinds is not None and len(kinds) == len(rest) and all([kind(word) for kind, word in zip(kinds, rest)])


class Case(unittest.TestCase):
    def assert_says(self, desk, *pairs):
        for row, wanted in pairs:
            with self.subTest(row):
                told = desk.say(row)
                self.assertIs(type(told), str)
                self.assertEqual(told, wanted)

    def assert_refused(self, desk, refusal, *rows):
        for row in rows:
            with self.subTest(row):
                before = held(desk)
                with self.assertRaises(refusal) as taken:
                    desk.say(row)
                self.assertIs(type(taken.exception), refusal)
                self.assertEqual(refusal.__bases__, (HallError,))
                self.assertEqual(held(desk), before)

    def assert_opened(self, desk, row, work, apart):
        before = held(desk)
        self.assertEqual(outcome(desk.say, row), (Open, work, apart))
        self.assertEqual(held(desk), before)

    def assert_barred(self, desk, row, lists):
        before = held(desk)
        self.assertEqual(outcome(desk.say, row), (Barred, lists))
        self.assertEqual(held(desk), before)


class Rows(Case):
    def test_all_of_them(self):
        self.assert_says(
            Desk(10), ("rows", "0"), ("put ode ann 8", "ok"), ("put ode bob 5", "ok"), ("put ode cat 10", "ok"),
            ("put lay ann 6", "ok"), ("put lay bob 3", "ok"), ("put air ann 4", "ok"), ("put air bob 1", "ok"),
            ("put air cat 0", "ok"), ("rows", "8"), ("drop air cat", "ok"), ("rows", "7"), ("rule mean 0", "ok"),
            ("scale 0,0 10,100", "ok"), ("grades 1-1 1-1 0-9", "ok"), ("settle", "ok"),
            ("mark ode", "70"), ("mark lay", "50"), ("mark air", "30"),
            ("grade ode", "0"), ("grade lay", "1"), ("grade air", "2"),
            ("leaning ann", "1"), ("leaning bob", "-2"), ("leaning cat", "3"), ("leaning dan", "0"),
            ("appeal air ann 8", "air"), ("mark air", "50"), ("grade air", "1"), ("appeal air ann 8", "none"),
            ("appeal lay dan 9", "lay"), ("mark lay", "190/3"), ("back lay dan", "lay"), ("mark lay", "50"),
            ("back ode cat", "none"), ("withdraw ode", "ode"), ("rows", "7"))

    def test_put_and_drop(self):
        desk = Desk(10)
        self.assert_says(desk, ("put a a 0", "ok"), ("put abcdefgh zzzzzzzz 10", "ok"), ("rows", "2"),
                         ("drop a a", "ok"), ("rows", "1"), ("put a a 10", "ok"), ("rows", "2"))
        self.assert_refused(desk, Twice, "put a a 10", "put a a 0", "put abcdefgh zzzzzzzz 10")
        self.assert_refused(desk, NoMark, "put b a 11", f"put b a {FIGURES}", "put a a 11")
        self.assert_refused(desk, Missing, "drop a b", "drop b a", "drop b b")

    def test_marks_of_twelve_figures(self):
        desk = Desk(10 ** 12)
        self.assert_says(desk, (f"put ode ann {FIGURES}", "ok"), ("put lay ann 0", "ok"), ("put air ann 7", "ok"),
                         ("settle", "ok"), ("mark ode", FIGURES), ("mark lay", "0"), ("mark air", "7"),
                         (f"appeal lay bob {FIGURES}", "lay"), ("mark lay", "999999999999/2"))

    def test_rules(self):
        desk = Desk(10)
        for row in ("put a ann 0", "put a bob 2", "put a cat 7", "put b ann 3", "put b bob 9", "put b cat 3"):
            desk.say(row)
        # ann leans by -5/2, bob by 3/2, cat by 1; levelled, a has 5/2, 1/2, 6 and b 11/2, 15/2, 2.
        self.assert_says(desk, ("settle", "ok"), ("mark a", "3"), ("mark b", "5"),
                         ("rule middle 9/7", "ok"), ("settle", "ok"), ("mark a", "5/2"), ("mark b", "11/2"),
                         ("rule pair 0", "ok"), ("settle", "ok"), ("mark a", "3/2"), ("mark b", "13/2"),
                         ("rule mean 1", "ok"), ("settle", "ok"), ("mark a", "3"), ("mark b", "5"))

    def test_the_gap(self):
        desk = Desk(12)
        # Levelled, the marks of a and of b lie 6 apart.
        for row in ("put a ann 5", "put a bob 5", "put b ann 12", "put b bob 0", "rule pair 6"):
            desk.say(row)
        self.assert_says(desk, ("settle", "ok"), ("mark a", "5"), ("rule pair 59/10", "ok"))
        self.assert_opened(desk, "settle", "a", True)
        self.assert_says(desk, ("rule pair 61/10", "ok"), ("settle", "ok"), ("rule pair 0", "ok"))
        self.assert_opened(desk, "settle", "a", True)
        self.assert_says(desk, (f"rule pair {FIGURES}", "ok"), ("settle", "ok"),
                         (f"rule pair {FIGURES}/999999999998", "ok"))
        self.assert_opened(desk, "settle", "a", True)

    def test_scales(self):
        desk = panel("grades 0-9")
        self.assert_says(desk, ("scale 4,10 6,20", "ok"), ("settle", "ok"),
                         ("mark air", "10"), ("mark lay", "15"), ("mark ode", "20"),
                         ("scale -1/2,-1/3 20,0", "ok"), ("settle", "ok"),
                         ("mark air", "-34/123"), ("mark lay", "-10/41"), ("mark ode", "-26/123"),
                         ("scale 0,-7 1,-7 3,-7 9,-1", "ok"), ("settle", "ok"),
                         ("mark air", "-7"), ("mark lay", "-5"), ("mark ode", "-3"))
        self.assert_refused(desk, NoScale, "scale 0,0 0,1", "scale 1,0 0,1", "scale 0,1 1,0", "scale 0,0 1,1 1,2",
                            "scale 1/2,0 3/7,1", "scale 0,0 1,1 2,1/2", "scale 0,0 0,0")

    def test_scales_of_twelve_figures(self):
        desk = panel("grades 0-9")
        most = Fraction(int(FIGURES), int(FIGURES) - 1)
        self.assert_says(desk, (f"scale -{FIGURES},-{FIGURES} {FIGURES},{FIGURES}", "ok"), ("settle", "ok"),
                         ("mark air", "3"), ("mark ode", "7"),
                         (f"scale 0,0 999999999998/999999999997,999999999998/{FIGURES}", "ok"), ("settle", "ok"),
                         ("mark air", f"999999999998/{FIGURES}"),
                         (f"scale -{most},-{most} 7,{most}", "ok"), ("settle", "ok"), ("mark ode", str(most)),
                         ("mark lay", str(-most + (5 + most) * 2 * most / (7 + most))))

    def test_grades(self):
        desk = panel()
        for row, told in (("grades 0-9", "000"), ("grades 0-2 0-2", "100"), ("grades 0-9 2-2", "110"),
                          ("grades 0-0 0-1 0-9", "221"), ("grades 0-0 0-0 0-0 3-3", "333"),
                          (f"grades 1-{FIGURES} 0-0", "000"), ("grades 1-1 1-1 1-1", "210")):
            self.assert_says(desk, (row, "ok"), ("settle", "ok"))
            self.assertEqual("".join([desk.say(f"grade {work}") for work in ("air", "lay", "ode")]), told)

    def test_twelve_grades(self):
        desk = panel("grades" + " 0-0" * 11 + " 0-3")
        self.assert_says(desk, ("settle", "ok"), ("grade ode", "11"), ("grades" + " 0-1" * 12, "ok"), ("settle", "ok"),
                         ("grade ode", "0"), ("grade lay", "1"), ("grade air", "2"))

    def test_bounds_that_cannot_be(self):
        desk = panel()
        for row, lists in (("grades 2-1", [[0], []]), ("grades 4-9", [[0], []]), ("grades 1-1 1-1", [[0], [1], [2]]),
                           (f"grades {FIGURES}-{FIGURES} 0-9", [[0], [], []])):
            self.assert_says(desk, (row, "ok"))
            self.assert_barred(desk, "settle", lists)

    def test_open(self):
        desk = panel("put psalm dan 5", "rule pair 0")
        self.assert_opened(desk, "settle", "psalm", False)
        desk = panel("put aa dan 1", "put aa eve 9", "put ab dan 9", "put ab eve 1", "rule pair 0", "grades 9-9")
        self.assert_opened(desk, "settle", "aa", True)

    def test_nothing_put(self):
        desk = Desk(10)
        self.assert_says(desk, ("rows", "0"), ("settle", "ok"), ("leaning ann", "0"))
        self.assert_refused(desk, NoWork, "mark ode", "grade ode", "withdraw ode", "back ode ann", "appeal ode ann 1")
        self.assert_says(desk, ("grades 1-2", "ok"))
        self.assert_barred(desk, "settle", [[0], []])

    def test_fractions_as_they_are_answered(self):
        desk = Desk(10)
        for row in ("put a ann 10", "put a bob 3", "put b bob 0", "settle"):
            desk.say(row)
        self.assert_says(desk, ("leaning ann", "14/3"), ("leaning bob", "-7/3"), ("mark a", "16/3"), ("mark b", "7/3"),
                         ("appeal a cat 3", "a"), ("mark a", "41/9"), ("appeal b cat 1", "b"), ("mark b", "5/3"))


class AtFirst(Case):
    def test_nothing_is_there(self):
        self.assert_says(Desk(10), ("rows", "0"))
        self.assert_refused(Desk(10), NoSitting, *OF_THE_SITTING)

    def test_the_rule_is_mean(self):
        desk = Desk(10)
        for row in ("put a ann 0", "put a bob 2", "put a cat 7", "put b ann 3", "put b bob 9", "put b cat 3"):
            desk.say(row)
        self.assert_says(desk, ("settle", "ok"), ("mark a", "3"), ("mark b", "5"))

    def test_a_mark_alone_is_enough(self):
        self.assert_says(Desk(10), ("put a ann 4", "ok"), ("settle", "ok"), ("mark a", "4"), ("grade a", "0"))

    def test_the_scale_goes_from_0_to_most(self):
        # ann leans by 10/3, bob by -20/3: levelled, the mark of b is -10/3. That of d is 40/3.
        desk = Desk(10)
        for row in ("put a ann 10", "put a bob 0", "put b ann 0", "put c cat 10", "put c dan 0", "put d dan 10"):
            desk.say(row)
        self.assert_says(desk, ("settle", "ok"), ("leaning ann", "10/3"), ("leaning dan", "-10/3"),
                         ("mark a", "20/3"), ("mark b", "0"), ("mark c", "10/3"), ("mark d", "10"))

    def test_the_most_may_be_any(self):
        for most in (1, 7, 10 ** 12 - 1, 10 ** 60 - 1):
            desk = Desk(most)
            self.assert_says(desk, ("put a ann 0", "ok"), ("put b ann 1", "ok"), ("settle", "ok"),
                             ("mark a", "0"), ("mark b", "1"), ("appeal a ann 1", "a"), ("mark a", "1"))
        self.assert_refused(Desk(1), NoMark, "put a ann 2")

    def test_there_is_one_grade_for_up_to_sixty_works(self):
        desk = Desk(100)
        names = ["w" + one + other for one in "abcdef" for other in "abcdefghij"]
        for place, name in enumerate(names):
            desk.say(f"put {name} ann {place}")
        self.assert_says(desk, ("rows", "60"), ("settle", "ok"))
        self.assertEqual({desk.say(f"grade {name}") for name in names}, {"0"})
        self.assert_says(desk, ("put more ann 60", "ok"))
        self.assert_barred(desk, "settle", [[0], list(range(61))])

    def test_desks_know_nothing_of_one_another(self):
        one, other = panel("settle"), Desk(10)
        self.assert_refused(other, NoSitting, "mark ode")
        self.assert_says(other, ("rows", "0"), ("put ode ann 1", "ok"), ("settle", "ok"), ("mark ode", "1"))
        self.assert_says(one, ("rows", "7"), ("mark ode", "70"))


class NoRows(Case):
    def assert_no_rows(self, *rows):
        # On a new desk NoSitting would be due for some, on a settled one other refusals.
        for row in rows:
            self.assertFalse(is_row(row), row)
        self.assert_refused(Desk(10), NoRow, *rows)
        self.assert_refused(panel("settle"), NoRow, *rows)

    def test_the_empty_row(self):
        self.assert_no_rows("")

    def test_blanks(self):
        self.assert_no_rows(" ", "  ", " rows", "rows ", "rows  ", " settle", "settle ", "put  new ann 5",
                            "put new  ann 5", "put new ann  5", "put new ann 5 ", " put new ann 5", "mark ode ",
                            "mark  ode", " mark ode", "scale 0,0  1,1", "scale 0,0 1,1 ", "grades  0-9", "grades 0-9 ",
                            "scale 0, 0 1,1", "grades 0 -9", "rule mean 1 /2")

    def test_another_word(self):
        self.assert_no_rows("x", "PUT new ann 5", "Rows", "SETTLE", "puts new ann 5", "pu new ann 5", "table", "works",
                            "hands", "borders", "take_back ode ann", "marks ode", "grade", "near ode", "5", "0", "-",
                            "ok", "none", "help", "mark,ode", "mark/ode", "rows.", "put,new,ann,5", "point 0,0 1,1")

    def test_a_piece_left_out(self):
        self.assert_no_rows("put", "put new", "put new ann", "drop", "drop ode", "rule", "rule mean", "rule 0",
                            "scale", "scale 0,0", "grades", "mark", "grade", "leaning", "appeal", "appeal ode",
                            "appeal ode ann", "back", "back ode", "withdraw")

    def test_a_piece_put_in(self):
        self.assert_no_rows("put new ann 5 5", "drop ode ann 5", "drop ode ann bob", "rule mean 0 0",
                            "rule mean pair 0", "scale 0,0 1,1 2", "grades 0-9 9", "settle 1", "settle now", "rows 1",
                            "rows ode", "mark ode lay", "grade ode 1", "leaning ann bob", "appeal ode ann 5 5",
                            "back ode ann 5", "withdraw ode lay")

    def test_whole_numbers_that_are_none(self):
        for mark in ("00", "01", "007", "-1", "-0", "+1", "1/2", "4/2", "1.0", "1.5", "1e3", "0x1", "1_0", "x", "-",
                     "1-", "five", "1000000000000", "0000000000000", "000000000001", "9" * 13, "9" * 60, "9" * 5000):
            self.assert_no_rows(f"put new ann {mark}", f"appeal ode ann {mark}", f"grades {mark}-9", f"grades 0-{mark}",
                                f"grades 0-9 {mark}-9")

    def test_fractions_that_are_none(self):
        for word in ("00", "01", "-0", "-01", "+1", "--1", "-", "1-", "1/1", "3/1", "0/1", "-3/1", "1/0", "0/0", "-1/0",
                     "2/4", "4/2", "0/2", "-0/2", "-2/4", "6/9", "1/02", "01/2", "1/-2", "-1/-2", "1/+2", "1/", "/2",
                     "/", "1//2", "1/2/3", "1.5", "1e3", "x", "1/x", "x/2", "1000000000000", "-1000000000000",
                     "1/1000000000001", "1000000000001/2", "-1000000000001/2", "9" * 5000, "1/" + "3" * 5000):
            self.assertFalse(is_fraction(word), word)
            self.assert_no_rows(f"rule pair {word}", f"scale {word},0 {FIGURES},9", f"scale -9,{word} 5,{FIGURES}",
                                f"scale -{FIGURES},0 {word},1", f"scale 0,0 1,1 2,{word}")

    def test_gaps_below_0(self):
        self.assert_no_rows("rule mean -1", "rule pair -1/2", f"rule middle -{FIGURES}")

    def test_rules_that_are_none(self):
        self.assert_no_rows("rule Mean 0", "rule median 0", "rule pairs 0", "rule 0 mean", "rule mean, 0", "rule x 0",
                            "rule mea 0")

    def test_points_that_are_none(self):
        for word in (",", "0", "0,", ",0", "0,0,", ",0,0", "0,0,0", "0;0", "0-0", "0,,0", "(0,0)", "0,x", "x,0", "0.0",
                     "0,-0", "-0,0", "1/1,0", "0,2/4"):
            self.assert_no_rows(f"scale {word} 1,1", f"scale -1,-1 {word}", f"scale -1,-1 {word} 1,1", f"scale {word}")

    def test_bounds_that_are_none(self):
        for word in ("-", "0", "0-", "-0", "0--0", "-1-1", "1--1", "0-1-2", "0,1", "0/1", "0-1/2", "1/2-1", "0-x",
                     "x-0", "0+1", "0-01", "00-1", "0-9-"):
            self.assert_no_rows(f"grades {word}", f"grades 0-9 {word}", f"grades {word} 0-9")

    def test_ahead_of_all_else(self):
        # NoScale, NoName, NoMark, Twice, Missing, NoWork would be due, were these rows at all.
        self.assert_no_rows("scale 1,0 0,01", "scale 1,1 0,0 x", "put A B 011", "put ode ann 08", "drop new ann ",
                            "mark new ", "appeal new A 01", "appeal ode A 1/2", "back new", "withdraw new old")

    def test_near_misses_are_rows(self):
        for row in ("put new ann 0", "put other ann 10", "drop ode ann", "rule mean 0", "rule pair 1/2",
                    "rule middle 999999999999/999999999998", "scale 0,0 1/2,1/2", "scale -1/2,-3 0,0", "grades 0-0",
                    "grades 3-2", f"grades 0-{FIGURES} {FIGURES}-0", "settle", "rows"):
            self.assertTrue(is_row(row), row)
            if row != "settle":
                self.assert_says(panel(), (row, "7" if row == "rows" else "ok"))

    def test_drawn_ones(self):
        chance = random.Random(18)
        rows = PANEL + LAID + OF_THE_SITTING + ("drop ode ann", "rule pair 1/2", "rule mean 0", "settle", "rows",
                                                "scale -1/2,0 10,7/3 100,100", "grades 10-20 0-1 2-2")
        settled = panel("settle")
        seen = []
        for turn in range(6000):
            row = chance.choice(rows)
            for change in range(chance.choice((1, 1, 2, 3))):
                place = chance.randrange(len(row) + 1)
                row = row[:place] + chance.choice(("", "", " ", "0", "1", "2", "-", "/", ",", "a", "~")) + \
                    row[place + chance.choice((0, 1)):]
            seen.append(is_row(row))
            desk = copy.deepcopy(settled)
            told = outcome(desk.say, row)
            self.assertEqual(told is NoRow, not seen[-1], row)
            if turn % 20 == 0 and told is NoRow:
                self.assertEqual(held(desk), held(settled))
        self.assertGreater(min(seen.count(True), seen.count(False)), 1000)


class NoSittings(Case):
    def test_ahead_of_other_refusals(self):
        self.assert_refused(Desk(10), NoSitting, *OF_THE_SITTING)
        self.assert_refused(panel(), NoSitting, *OF_THE_SITTING, "mark new", "grade new", "leaning dan",
                            "appeal new ann 5", "appeal ode A 5", "appeal ode ann 11", "appeal A B 99", "back new ann",
                            "back ode dan", "withdraw new", "withdraw A", "mark A", "leaning A")

    def test_behind_no_row(self):
        self.assert_refused(Desk(10), NoRow, "mark", "grade ode ann", "appeal ode ann 05", "appeal ode ann -1",
                            "back ode", "withdraw", "leaning ", "mark ode ")

    def test_a_refused_settle_makes_none(self):
        desk = panel("grades 9-9")
        self.assert_barred(desk, "settle", [[0], []])
        self.assert_refused(desk, NoSitting, *OF_THE_SITTING)
        desk = panel("put psalm ann 5", "rule pair 0")
        self.assert_opened(desk, "settle", "psalm", False)
        self.assert_refused(desk, NoSitting, *OF_THE_SITTING)
        self.assert_says(desk, ("rule mean 0", "ok"), ("settle", "ok"), ("grade ode", "0"))


class Words(Case):
    def test_put(self):
        for word in NO_NAMES:
            self.assert_refused(panel("settle"), NoName, f"put {word} ann 5", f"put new {word} 5",
                                f"put {word} {word} 5", f"put {word} ann 11", f"put ode {word} 11")

    def test_put_tells_no_mark_ahead_of_twice(self):
        self.assert_refused(panel("settle"), NoMark, "put ode ann 11", "put new ann 11")
        self.assert_refused(panel("settle"), Twice, "put ode ann 8")

    def test_the_others_do_as_for_names_that_are_not_there(self):
        for word in NO_NAMES + ("new", "put", "rows"):
            desk = panel("settle")
            self.assert_refused(desk, Missing, f"drop {word} ann", f"drop ode {word}", f"drop {word} {word}",
                                f"back ode {word}")
            self.assert_refused(desk, NoWork, f"mark {word}", f"grade {word}", f"withdraw {word}", f"back {word} ann",
                                f"back {word} {word}")
            self.assert_says(desk, (f"leaning {word}", "0"))

    def test_appeals_in_their_order(self):
        desk = panel("rule pair 0", "settle")
        for word in NO_NAMES:
            self.assert_refused(desk, NoWork, f"appeal {word} ann 5", f"appeal {word} {word} 5",
                                f"appeal new {word} 11", f"appeal {word} {word} 11")
            self.assert_refused(desk, NoName, f"appeal ode {word} 5", f"appeal ode {word} 11",
                                f"appeal air {word} {FIGURES}")
        self.assert_refused(desk, NoWork, "appeal new ann 5", "appeal new ann 11", "appeal ann ode 5")
        self.assert_refused(desk, NoMark, "appeal ode ann 11", "appeal air ann 11", "appeal air dan 11",
                            f"appeal ode ann {FIGURES}")
        self.assert_opened(desk, "appeal air ann 10", "air", True)
        self.assert_opened(desk, "appeal lay bob 0", "lay", True)
        self.assert_says(desk, ("appeal air dan 10", "none"), ("appeal air ann 10", "air"), ("mark air", "95"),
                         ("appeal air eve 10", "air"), ("mark air", "100"))

    def test_back_in_its_order(self):
        desk = panel("rule pair 0", "settle")
        self.assert_refused(desk, NoWork, "back new ann", "back new nobody", "back ann ode")
        self.assert_refused(desk, Missing, "back air cat", "back air dan", "back air A")
        self.assert_opened(desk, "back air ann", "air", False)
        self.assert_says(desk, ("back ode cat", "none"))
        self.assert_opened(desk, "back ode bob", "ode", False)

    def test_a_row_may_have_names_like_its_first_words(self):
        self.assert_says(Desk(10), ("put put put 5", "ok"), ("put mark rows 5", "ok"), ("settle", "ok"),
                         ("mark mark", "5"), ("grade put", "0"), ("withdraw mark", "mark"), ("drop put put", "ok"))


class Standing(Case):
    def asked(self, desk):
        return [outcome(desk.say, row) for row in ASKED if row != "rows"]

    def test_a_sitting_stays_until_the_next_settle(self):
        desk = panel("settle")
        before = self.asked(desk)
        for row in ("put psalm ann 1", "put lay cat 0", "drop ode ann", "drop air bob", "rule pair 0", "scale 0,0 1,1",
                    "grades 0-0 9-9"):
            self.assert_says(desk, (row, "ok"))
            self.assertEqual(self.asked(desk), before)
        # By the old rule, scale and borders; the dropped mark is still there.
        self.assert_says(desk, ("appeal air ann 8", "air"), ("mark air", "50"), ("grade air", "1"),
                         ("back ode ann", "none"), ("appeal lay dan 9", "lay"), ("mark lay", "190/3"))
        self.assert_refused(desk, Missing, "back lay cat")
        self.assert_refused(desk, NoWork, "appeal psalm ann 1")

    def test_a_refused_settle_leaves_the_sitting(self):
        desk = panel("settle", "appeal air ann 8", "withdraw lay", "grades 9-9")
        before = self.asked(desk)
        self.assert_barred(desk, "settle", [[0], []])
        self.assertEqual(self.asked(desk), before)
        self.assert_says(desk, ("put psalm ann 1", "ok"), ("rule pair 0", "ok"))
        self.assert_opened(desk, "settle", "psalm", False)
        self.assertEqual(self.asked(desk), before)
        self.assert_says(desk, ("appeal air ann 8", "none"), ("mark air", "50"))
        self.assert_refused(desk, NoWork, "mark lay")

    def test_the_next_one_is_made_of_all_that_stands_then(self):
        desk = panel("settle", "appeal air ann 10", "appeal lay dan 0", "withdraw ode")
        self.assert_says(desk, ("settle", "ok"), ("mark air", "30"), ("mark lay", "50"), ("mark ode", "70"))
        for row in ("drop ode ann", "drop ode bob", "drop ode cat", "put psalm ann 2", "put psalm bob 0",
                    "scale 0,0 5,5", "grades 0-1 0-9"):
            desk.say(row)
        self.assert_says(desk, ("settle", "ok"), ("leaning ann", "4/3"), ("leaning bob", "-4/3"), ("leaning cat", "0"),
                         ("mark lay", "9/2"), ("mark air", "5/2"), ("mark psalm", "1"), ("grade lay", "0"),
                         ("grade air", "1"), ("grade psalm", "1"))
        self.assert_refused(desk, NoWork, "mark ode")

    def test_appeals_leave_the_book(self):
        desk = panel("settle")
        self.assert_says(desk, ("appeal air dan 9", "air"), ("withdraw ode", "ode"), ("back lay ann", "none"),
                         ("rows", "7"), ("put air dan 9", "ok"), ("rows", "8"), ("drop ode ann", "ok"),
                         ("drop lay ann", "ok"), ("rows", "6"))

    def test_what_is_refused_keeps_what_was_laid(self):
        desk = panel()
        self.assert_refused(desk, NoScale, "scale 1,0 0,1")
        self.assert_refused(desk, NoRow, "grades 0-9 x", "rule pair x", "scale 0,0 x")
        self.assert_says(desk, ("settle", "ok"), ("mark ode", "70"), ("grade air", "2"))

    def test_withdrawn_works(self):
        desk = panel("settle")
        self.assert_says(desk, ("withdraw ode", "ode"), ("mark lay", "50"), ("grade lay", "1"))
        self.assert_refused(desk, NoWork, "mark ode", "grade ode", "withdraw ode", "back ode ann", "back ode nobody",
                            "appeal ode ann 8", "appeal ode A 99")


class Model:
    # The same by the classes beneath, asked without a row of text.
    def __init__(self, most):
        self.book = Book(most)
        self.laid = {"rule": "mean", "gap": (0, 1), "bounds": [(0, 60)],
                     "scale": Scale([((0, 1), (0, 1)), ((most, 1), (most, 1))])}
        self.sitting = None

    def lay(self, **laid):
        self.laid.update(laid)

    def settle(self):
        self.sitting = Sitting(self.book.rows(), **self.laid)

    def asked(self, method, *handed):
        if self.sitting is None:
            raise NoSitting("model")
        return getattr(self.sitting, method)(*handed)


class DrawnRows(Case):
    def drawn(self, chance, model):
        work, hand, mark = chance.choice(WORKS), chance.choice(HANDS), chance.randrange(11)
        number = chance.randrange(4)
        rule, bounds = chance.choice(("mean", "middle", "pair")), [(0, 2)] * number + [(0, chance.randrange(1, 5))]
        points = [((0, 1), (number, 1)), ((5, 1), (5, 2)), ((8, 1), (9, 2))]
        return chance.choice((
            (f"put {work} {hand} {mark}", lambda: model.book.put(work, hand, mark)),
            (f"put {work} {hand} {mark}", lambda: model.book.put(work, hand, mark)),
            (f"drop {work} {hand}", lambda: model.book.drop(work, hand)),
            (f"rule {rule} {number}", lambda: model.lay(rule=rule, gap=(number, 1))),
            (f"scale 0,{number} 5,5/2 8,9/2", lambda: model.lay(scale=Scale(points))),
            ("grades " + " ".join([f"{least}-{most}" for least, most in bounds]), lambda: model.lay(bounds=bounds)),
            ("settle", model.settle), ("settle", model.settle),
            ("rows", lambda: len(model.book.rows())),
            (f"mark {work}", lambda: model.asked("mark", work)),
            (f"grade {work}", lambda: model.asked("grade", work)),
            (f"leaning {hand}", lambda: model.asked("leaning", hand)),
            (f"appeal {work} {hand} {mark}", lambda: model.asked("appeal", work, hand, mark)),
            (f"back {work} {hand}", lambda: model.asked("take_back", work, hand)),
            (f"withdraw {work}", lambda: model.asked("withdraw", work))))

    def written(self, told):
        if told is None:
            return "ok"
        if isinstance(told, list):
            return " ".join(told) or "none"
        if isinstance(told, tuple) and isinstance(told[0], int):
            return str(told[0]) + ("/" + str(told[1])) * (told[1] > 1)
        return str(told) if isinstance(told, int) else told

    def test_held_against_the_classes_beneath(self):
        chance = random.Random(180)
        seen = set()
        for turn in range(40):
            desk, model = Desk(10), Model(10)
            for step in range(150):
                row, ask = self.drawn(chance, model)
                wanted = self.written(outcome(ask))
                told = outcome(desk.say, row)
                self.assertEqual(told, wanted, row)
                seen.add(told[0] if isinstance(told, tuple) else told if isinstance(told, type) else row.split(" ")[0])
        refusals = {Twice, Missing, NoScale, NoSitting, NoWork, Open, Barred}
        self.assertEqual(seen, set(KINDS) | {"scale", "grades"} | refusals)


if __name__ == "__main__":
    unittest.main()
