"""Verdicts: which makes come nearest to a row, and so what in it may lie."""


def choices(some, many):
    """All ways to choose so many out of a list, each in the list's order."""
    if many == 0:
        return [[]]
    found = []
    for at, one in enumerate(some):
        for more in choices(some[at + 1:], many - 1):
            found.append([one] + more)
    return found


def without(row, roles):
    """The row with these roles not told."""
    return [None if role in roles else block for role, block in enumerate(row)]


def agreeing(code, row):
    """The makes that agree with the row: none, the one, or two of several."""
    make = code.filled(row)
    if not code.is_make(make):
        return []
    for told in code.paper(row):
        if told[0] == "free":
            return [told[1], told[2]]
    return [make]


def nearest(code, row, many):
    """Tuples (liars, make) of makes with so many liars, where no make has fewer: all, or two of several."""
    found = []
    # No make has fewer liars, so makes that come of unlike choices have unlike liars and are unlike.
    for liars in choices([role for role in range(code.roles) if row[role] is not None], many):
        for make in agreeing(code, without(row, liars)):
            found.append((liars, make))
        if len(found) >= 2:
            return found[:2]
    return found


def verdict_of(code, row):
    """("right", make, left), ("lies", role, make) or ("open", one, other), by the makes with the fewest liars."""
    many = 0
    found = nearest(code, row, many)
    # Whatever the data blocks are, a make has them, so no more than the sums need be liars.
    while len(found) == 0:
        many += 1
        found = nearest(code, row, many)
    if len(found) == 2:
        return ("open", found[0][1], found[1][1])
    if many == 0:
        return ("right", found[0][1], code.sums - row.count(None))
    return ("lies", found[0][0][0], found[0][1])
