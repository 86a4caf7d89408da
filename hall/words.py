"""Words: the rows of a desk read word by word, and fractions written for its answers."""

from hall.errors import NoRow
from hall.fractions import fraction

MOST_FIGURES = 12
RULES = ("mean", "middle", "pair")
# What the words behind the first one are. The rows scale and grades are not
# here: theirs are as many as there are points or grades.
FORMS = {
    "put": ("name", "name", "whole"),
    "drop": ("name", "name"),
    "rule": ("rule", "gap"),
    "settle": (),
    "rows": (),
    "mark": ("name",),
    "grade": ("name",),
    "leaning": ("name",),
    "appeal": ("name", "name", "whole"),
    "back": ("name", "name"),
    "withdraw": ("name",),
}


def written(told):
    if told[1] == 1:
        return str(told[0])
    return str(told[0]) + "/" + str(told[1])


def read_row(row):
    words = row.split(" ")
    # Two blanks side by side, or one at an end, leave an empty word.
    if "" in words:
        raise NoRow("words are parted by single blanks")
    kinds = form(words[0], len(words) - 1)
    if len(kinds) != len(words) - 1:
        raise NoRow("this row has another number of words")
    return [words[0]] + [read_word(kind, word) for kind, word in zip(kinds, words[1:])]


def form(first, number):
    if first == "scale":
        return ("point",) * max(2, number)
    if first == "grades":
        return ("bound",) * max(1, number)
    if first not in FORMS:
        raise NoRow("no row begins with this word")
    return FORMS[first]


def read_word(kind, word):
    if kind == "whole":
        return read_whole(word)
    if kind == "rule":
        return read_rule(word)
    if kind == "gap":
        return read_gap(word)
    if kind == "point":
        return read_point(word)
    if kind == "bound":
        return read_bound(word)
    # Whether it is a name is asked later, behind other refusals.
    return word


def read_whole(word):
    # The length first: Python refuses to read numbers of some thousand figures.
    if len(word) > MOST_FIGURES or not word.isdigit():
        raise NoRow("a whole number has one to twelve figures")
    if word[0] == "0" and word != "0":
        raise NoRow("a whole number has no nought ahead")
    return int(word)


def read_fraction(word):
    parts = word.split("/")
    bottom = read_whole(parts[1]) if len(parts) == 2 else 1
    if bottom == 0:
        raise NoRow("a bottom is from 2 on")
    told = fraction(read_top(parts[0]), bottom)
    # There is one way to write a fraction: a bottom 1, a second bottom, a common
    # divisor or a - ahead of 0 would come out otherwise.
    if written(told) != word:
        raise NoRow("a fraction is written in one way alone")
    return told


def read_top(word):
    return -read_whole(word[1:]) if word.startswith("-") else read_whole(word)


def read_rule(word):
    if word not in RULES:
        raise NoRow("no such rule")
    return word


def read_gap(word):
    gap = read_fraction(word)
    if gap[0] < 0:
        raise NoRow("a gap is from 0 on")
    return gap


def read_point(word):
    parts = two_parts(word, ",")
    return (read_fraction(parts[0]), read_fraction(parts[1]))


def read_bound(word):
    parts = two_parts(word, "-")
    return (read_whole(parts[0]), read_whole(parts[1]))


def two_parts(word, sign):
    parts = word.split(sign)
    if len(parts) != 2:
        raise NoRow("a point and a bound have two parts")
    return parts
