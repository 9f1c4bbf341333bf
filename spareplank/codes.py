"""Codes: blocks of data, sums of them by weights, and what some roles tell of the others."""

from spareplank.errors import NoCode, NoPlace
from spareplank.lines import scaled_line, sum_of_two, told_of

MOST_ROLES = 8
MOST_SUMS = 2


def check_lengths(weights):
    """Refuses with NoCode where there are too few or too many lists, or their lengths do not fit."""
    if len(weights) < 1 or len(weights) > MOST_SUMS:
        raise NoCode(f"there are 1 to {MOST_SUMS} lists of weights")
    data = len(weights[0])
    if data < 1 or data + len(weights) > MOST_ROLES:
        raise NoCode(f"there is 1 data role at least, and there are {MOST_ROLES} roles at most")
    for some in weights:
        if len(some) != data:
            raise NoCode("the lists of weights are not equally long")


def check_weights(field, weights):
    """Refuses with NoCode where a weight is no symbol, or a sum or a data role has none but 0."""
    for some in weights:
        for weight in some:
            if weight < 0 or weight > field.last:
                raise NoCode(f"{weight} is no symbol of the field")
        if not any(some):
            raise NoCode("a sum touches no data role")
    for role in range(len(weights[0])):
        if not any([some[role] for some in weights]):
            raise NoCode(f"no sum touches the data role {role}")


def equation_of(weights, total):
    """The equation of the sum of this number: its weights, 1 at its own role, 0 at the other sum's."""
    line = list(weights[total])
    for other in range(len(weights)):
        line.append(1 if other == total else 0)
    return line


class Code:
    """Data roles and one or two sums of them, by weights."""

    def __init__(self, blocks, weights):
        check_lengths(weights)
        check_weights(blocks.field, weights)
        self.blocks = blocks
        self.sums = len(weights)
        self.data = len(weights[0])
        self.roles = self.data + self.sums
        self.lines = [equation_of(weights, total) for total in range(self.sums)]

    def equations(self):
        """The equation of each sum, with a symbol for each role."""
        return [list(line) for line in self.lines]

    def touches(self, total, role):
        """Whether the sum of this number has a weight other than 0 at a data role."""
        if total < 0 or total >= self.sums:
            raise NoPlace(total)
        if role < 0 or role >= self.data:
            raise NoPlace(role)
        return self.lines[total][role] != 0

    def made(self, some):
        """The make of these data blocks."""
        return some + [self.blocks.summed(line[:self.data], some) for line in self.lines]

    def is_make(self, row):
        """Whether all sums of the row are right."""
        return all([self.blocks.summed(line, row) == 0 for line in self.lines])

    def told(self, known, role):
        """What the known roles tell of another one, as told_of tells it."""
        return told_of(self.blocks.field, self.lines, known, role)

    def fixes(self, known, role):
        """Whether the role is known or can be reckoned from the known ones."""
        self.check_role(role)
        return known[role] or self.told(known, role)[0] == "reckoned"

    def reckoned(self, row, role):
        """The block of the role in the row, None where what the row tells does not fix it."""
        self.check_role(role)
        if row[role] is not None:
            return row[role]
        told = self.told([block is not None for block in row], role)
        if told[0] == "free":
            return None
        return self.summed_by(told[1], row)

    def summed_by(self, by, row):
        """The sum of the told blocks, each times its symbol in the sum of the equations by these symbols."""
        line = [0] * self.roles
        for factor, equation in zip(by, self.lines):
            line = sum_of_two(line, scaled_line(self.blocks.field, factor, equation))
        told = [role for role in range(self.roles) if row[role] is not None]
        return self.blocks.summed([line[role] for role in told], [row[role] for role in told])

    def filled(self, row):
        """The row with a block for each role that it does not tell, from the lowest on, 0 where nothing fixes it."""
        some = list(row)
        for role in range(self.roles):
            block = self.reckoned(some, role)
            some[role] = 0 if block is None else block
        return some

    def paper(self, row):
        """What the row tells of each role: read, reckoned, or free, and how that is known."""
        return [self.paper_of_role(row, role) for role in range(self.roles)]

    def paper_of_role(self, row, role):
        """What the row tells of one role, with lists that stand nowhere else."""
        if row[role] is not None:
            return ("read", row[role])
        told = self.told([block is not None for block in row], role)
        if told[0] == "reckoned":
            return ("reckoned", self.summed_by(told[1], row), told[1])
        one = self.filled(row)
        # A symbol is the block whose lowest symbol it is, so the list that is told is a make of blocks too.
        return ("free", one, sum_of_two(one, told[1]))

    def check_role(self, role):
        """Refuses a role that is not there."""
        if role < 0 or role >= self.roles:
            raise NoPlace(role)
