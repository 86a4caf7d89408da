"""The desk: rows of text asked, texts answered."""

from hall.books import Book, is_mark, is_name
from hall.errors import NoMark, NoName, NoSitting
from hall.scales import Scale
from hall.sittings import Sitting
from hall.words import read_row, written

MOST_WORKS = 60
OF_THE_SITTING = ("mark", "grade", "leaning", "appeal", "back", "withdraw")


class Desk:
    def __init__(self, most):
        self.book = Book(most)
        self.rule = "mean"
        self.gap = (0, 1)
        self.scale = Scale([((0, 1), (0, 1)), ((most, 1), (most, 1))])
        self.bounds = [(0, MOST_WORKS)]
        self.sitting = None

    def say(self, row):
        said = read_row(row)
        if said[0] in OF_THE_SITTING:
            return self.answer(said)
        if said[0] == "rows":
            return str(len(self.book.rows()))
        self.lay(said)
        return "ok"

    def lay(self, said):
        if said[0] == "put":
            self.book.put(said[1], said[2], said[3])
        elif said[0] == "drop":
            self.book.drop(said[1], said[2])
        elif said[0] == "rule":
            self.rule = said[1]
            self.gap = said[2]
        elif said[0] == "scale":
            self.scale = Scale(said[1:])
        elif said[0] == "grades":
            self.bounds = said[1:]
        else:
            self.sitting = Sitting(self.book.rows(), self.rule, self.gap, self.scale, self.bounds)

    def answer(self, said):
        if self.sitting is None:
            raise NoSitting("nothing is settled yet")
        if said[0] == "mark":
            return written(self.sitting.mark(said[1]))
        if said[0] == "grade":
            return str(self.sitting.grade(said[1]))
        if said[0] == "leaning":
            return written(self.sitting.leaning(said[1]))
        works = self.changed(said)
        return " ".join(works) if works else "none"

    def changed(self, said):
        if said[0] == "appeal":
            return self.appealed(said[1], said[2], said[3])
        if said[0] == "back":
            return self.sitting.take_back(said[1], said[2])
        return self.sitting.withdraw(said[1])

    def appealed(self, work, hand, mark):
        # The sitting asks this, too, but here it comes ahead of name and mark.
        self.sitting.must_have(work)
        if not is_name(hand):
            raise NoName("a name has one to eight letters from a to z")
        if not is_mark(mark, self.book.most):
            raise NoMark("a mark is a whole number from 0 to the most")
        return self.sitting.appeal(work, hand, mark)
