"""Sittings: works settled with marks and grades, and the appeals that come then."""

from hall.borders import borders, grade
from hall.errors import Apart, Few, Missing, NoWork, Open
from hall.fractions import minus
from hall.leanings import leanings
from hall.rules import worth
from hall.scales import Scale
from hall.shares import cuts
from hall.sheets import by_work


class Sitting:
    def __init__(self, rows, rule, gap, scale, bounds):
        self.rule = rule
        self.gap = gap
        # A scale of its own: whatever is done to the one handed in, this one stays.
        self.scale = Scale(list(scale.points))
        self.kept_leanings = leanings(rows)
        self.sheets = by_work(rows)
        self.marks = {}
        # By name, since the first work that the rule refuses is the one to tell.
        for work in sorted(self.sheets):
            self.marks[work] = self.reckoned(work, self.sheets[work])
        dealt = list(self.marks.values())
        self.kept_borders = borders(dealt, cuts(dealt, bounds))

    def reckoned(self, work, sheet):
        levels = [minus((mark, 1), self.leaning(hand)) for hand, mark in sheet.items()]
        try:
            return self.scale.scaled(worth(self.rule, levels, self.gap))
        except Apart:
            raise Open(work, True) from None
        except Few:
            raise Open(work, False) from None

    def table(self):
        return [(work, self.mark(work), self.grade(work)) for work in sorted(self.marks)]

    def must_have(self, work):
        if work not in self.marks:
            raise NoWork("no such work is in the sitting")

    def mark(self, work):
        self.must_have(work)
        return self.marks[work]

    def grade(self, work):
        return grade(self.kept_borders, self.mark(work))

    def leaning(self, hand):
        return self.kept_leanings.get(hand, (0, 1))

    def borders(self):
        return list(self.kept_borders)

    def appeal(self, work, hand, mark):
        sheet = self.sheet_copy(work)
        sheet[hand] = mark
        return self.renewed(work, sheet)

    def take_back(self, work, hand):
        sheet = self.sheet_copy(work)
        if hand not in sheet:
            raise Missing("this hand has no mark of this work")
        sheet.pop(hand)
        return self.renewed(work, sheet)

    def withdraw(self, work):
        self.must_have(work)
        self.sheets.pop(work)
        self.marks.pop(work)
        return [work]

    def sheet_copy(self, work):
        # A copy, since the rule may refuse the work as it would be then.
        self.must_have(work)
        return dict(self.sheets[work])

    def renewed(self, work, sheet):
        ahead = self.marks[work]
        # The rule refuses here, ahead of any change.
        self.marks[work] = self.reckoned(work, sheet)
        self.sheets[work] = sheet
        # Borders stay, so a work with its mark as it was has its grade as it was.
        return [] if self.marks[work] == ahead else [work]
