"""Groups: hands that are joined, step by step, by works that they marked."""

from hall.sheets import by_work


def groups(rows):
    found = []
    for sheet in by_work(rows).values():
        found = joined(found, list(sheet))
    return sorted(found)


def joined(found, hands):
    # Hands of one work may belong to several groups found so far: these become one.
    apart = [group for group in found if not meet(group, hands)]
    together = list(hands)
    for group in found:
        if meet(group, hands):
            together.extend(group)
    return apart + [sorted(set(together))]


def meet(group, hands):
    return any([hand in group for hand in hands])
