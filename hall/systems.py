"""Systems of equations, with as many rows as unknowns, solved exactly."""

from hall.errors import NoAnswer
from hall.fractions import divisor, fraction


def solved(rows, rights):
    table = [whole_row(row + [right]) for row, right in zip(rows, rights)]
    ahead = 1
    for place in range(len(table)):
        table = cleared(led(table, place), place, ahead)
        ahead = table[place][place]
    return [fraction(row[-1], row[place]) for place, row in enumerate(table)]


def whole_row(row):
    # A row times a number asks the same of the unknowns, and whole numbers
    # spare a search for divisors at every step.
    multiple = 1
    for part in row:
        multiple = multiple * (part[1] // divisor(multiple, part[1]))
    return [part[0] * (multiple // part[1]) for part in row]


def led(table, place):
    # Rows ahead of the place are done with; one behind them must hold the unknown.
    for spot in range(place, len(table)):
        if table[spot][place] != 0:
            return exchanged(table, place, spot)
    raise NoAnswer("the system has no answer, or several")


def exchanged(table, place, spot):
    other = list(table)
    other[place] = table[spot]
    other[spot] = table[place]
    return other


def cleared(table, place, ahead):
    lead = table[place]
    return [row if spot == place else without(row, lead, place, ahead) for spot, row in enumerate(table)]


def without(row, lead, place, ahead):
    # By Bareiss the lead of the step ahead divides every entry of this one, so
    # the figures grow no more than they must.
    return [(lead[place] * part - row[place] * head) // ahead for part, head in zip(row, lead)]
