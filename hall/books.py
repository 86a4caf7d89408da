"""Books: the marks that hands gave to works."""

from hall.errors import Missing, NoMark, NoName, Twice

LONGEST_NAME = 8


def is_name(name):
    # Asked ahead of any look-up: a list that is handed in cannot be a key.
    if not isinstance(name, str):
        return False
    if not 1 <= len(name) <= LONGEST_NAME:
        return False
    return all(["a" <= sign <= "z" for sign in name])


def is_mark(mark, most):
    # To Python a truth is an int, too; here it is no whole number.
    if isinstance(mark, bool) or not isinstance(mark, int):
        return False
    return 0 <= mark <= most


class Book:
    def __init__(self, most):
        self.most = most
        # Keyed by (work, hand): a key's order is the order of the rows.
        self.marks = {}

    def put(self, work, hand, mark):
        if not is_name(work) or not is_name(hand):
            raise NoName("a name has one to eight letters from a to z")
        if not is_mark(mark, self.most):
            raise NoMark("a mark is a whole number from 0 to the most")
        if (work, hand) in self.marks:
            raise Twice("a hand marks a work once")
        self.marks[(work, hand)] = mark

    def drop(self, work, hand):
        if not is_name(work) or not is_name(hand) or (work, hand) not in self.marks:
            raise Missing("this hand has no mark of this work")
        self.marks.pop((work, hand))

    def rows(self):
        return [(work, hand, self.marks[(work, hand)]) for work, hand in sorted(self.marks)]

    def works(self):
        return sorted(set([work for work, hand in self.marks]))

    def hands(self):
        return sorted(set([hand for work, hand in self.marks]))
