"""Equations over a field: what known places tell of another place."""

from spareplank.errors import NoPlace


def unit(many, at):
    """As many noughts, with a 1 at one place."""
    some = [0] * many
    some[at] = 1
    return some


def scaled_line(field, factor, line):
    """The line with each symbol times the factor."""
    return [field.times(symbol, factor) for symbol in line]


def sum_of_two(one, other):
    """The sum of two lines, place by place."""
    return [symbol ^ another for symbol, another in zip(one, other)]


def first_with(lines, start, place):
    """The number of the first line from start on that is not 0 at the place, or None."""
    for at in range(start, len(lines)):
        if lines[at][place] != 0:
            return at
    return None


def swapped(lines, one, other):
    """The lines with two of them in each other's stead."""
    some = list(lines)
    some[one] = lines[other]
    some[other] = lines[one]
    return some


def cleared(field, lines, at, place):
    """The lines, the one at a number scaled to 1 at the place, and all others brought to 0 there by it."""
    head = scaled_line(field, field.back(lines[at][place]), lines[at])
    some = []
    for number, line in enumerate(lines):
        if number == at:
            some.append(head)
        elif line[place] == 0:
            some.append(line)
        else:
            some.append(sum_of_two(line, scaled_line(field, line[place], head)))
    return some


def told_of(field, lines, known, place):
    """("reckoned", by) where the known places fix this one by the lines, else ("free", make)."""
    if place < 0 or place >= len(known) or known[place]:
        raise NoPlace(place)
    # Behind its symbols each line carries of which lines, each how many times, it is the sum.
    some = [line + unit(len(lines), at) for at, line in enumerate(lines)]
    heads = []
    for other in range(len(known)):
        if known[other] or other == place:
            continue
        found = first_with(some, len(heads), other)
        if found is not None:
            some = cleared(field, swapped(some, len(heads), found), len(heads), other)
            heads.append(other)
    # The lines behind the heads are 0 at every unknown place but, perhaps, this one.
    found = first_with(some, len(heads), place)
    if found is None:
        return ("free", free_make(some, heads, len(known), place))
    by = cleared(field, some, found, place)[found][len(known):]
    return ("reckoned", by)


def free_make(lines, heads, many, place):
    """The list with 1 at the place that keeps all lines, each of the first of which is 1 at its head alone."""
    make = unit(many, place)
    for head, line in zip(heads, lines):
        make[head] = line[place]
    return make


def plain_weights(data, sums):
    """The weights 1, 1, 1 .. of a first sum and 1, 2, 3 .. of a second one."""
    weights = [[1] * data]
    if sums == 2:
        weights.append(list(range(1, data + 1)))
    return weights
