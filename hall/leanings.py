"""Leanings: by how much each hand marks high or low, reckoned out of all rows."""

from hall.fractions import fraction, minus, plus, total
from hall.groups import groups
from hall.sheets import by_work
from hall.systems import solved


def leanings(rows):
    found = {}
    for hands in groups(rows):
        sheets = list(by_work([row for row in rows if row[1] in hands]).values())
        for hand, leaning in zip(hands, group_leanings(hands, sheets)):
            found[hand] = leaning
    return found


def levelled(rows):
    found = leanings(rows)
    return [(work, hand, minus((mark, 1), found[hand])) for work, hand, mark in rows]


def group_leanings(hands, sheets):
    # A work's number is the mean of mark less leaning over its rows: with this
    # put in its place, only the leanings are unknown. The equations of a group's
    # hands add up to 0 = 0, so the first says no more than the others do, and
    # the one for the group's sum stands in its place.
    lefts = [shares(hand, hands, sheets) for hand in hands[1:]]
    rights = [excess(hand, sheets) for hand in hands[1:]]
    numbers = [(len(sheets_with(hand, sheets)), 1) for hand in hands]
    return solved([numbers] + lefts, [(0, 1)] + rights)


def sheets_with(hand, sheets):
    return [sheet for sheet in sheets if hand in sheet]


def shares(hand, hands, sheets):
    return [share(hand, other, sheets) for other in hands]


def share(hand, other, sheets):
    # What the other's leaning is taken times in the hand's equation: through
    # the works' numbers, and for the hand itself once for each of its rows.
    both = sheets_with(other, sheets_with(hand, sheets))
    through_works = total([(-1, len(sheet)) for sheet in both])
    return plus((len(both), 1), through_works) if hand == other else through_works


def excess(hand, sheets):
    return total([minus((sheet[hand], 1), mean_mark(sheet)) for sheet in sheets_with(hand, sheets)])


def mean_mark(sheet):
    return fraction(sum(sheet.values()), len(sheet))
