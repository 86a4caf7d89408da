"""Sheets: the marks of each work, by hand."""


def by_work(rows):
    sheets = {}
    for work, hand, mark in rows:
        if work not in sheets:
            sheets[work] = {}
        sheets[work][hand] = mark
    return sheets
