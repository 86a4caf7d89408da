"""The refusals, each a class of its own straight under HallError."""


class HallError(ValueError):
    pass


class NoFraction(HallError):
    pass


class NoName(HallError):
    pass


class NoMark(HallError):
    pass


class Twice(HallError):
    pass


class Missing(HallError):
    pass


class NoAnswer(HallError):
    pass


class Few(HallError):
    pass


class Apart(HallError):
    pass


class NoScale(HallError):
    pass


class Barred(HallError):
    def __init__(self, reach):
        self.reach = [list(counts) for counts in reach]
        # Python keeps what an error is made of as its words: without this the
        # maker's own lists would stay there, and changes to them would show.
        HallError.__init__(self, self.reach)


class Open(HallError):
    def __init__(self, work, apart):
        self.work = work
        self.apart = apart


class NoWork(HallError):
    pass


class NoSitting(HallError):
    pass


class NoRow(HallError):
    pass
