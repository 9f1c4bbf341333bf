"""Blocks: whole numbers whose digits are symbols of a field."""

from spareplank.errors import NoShape

MOST_SYMBOLS = 16


class Blocks:
    """The blocks of so many symbols of a field."""

    def __init__(self, field, many):
        if many < 1 or many > MOST_SYMBOLS:
            raise NoShape(f"a block has 1 to {MOST_SYMBOLS} symbols, not {many}")
        self.field = field
        self.many = many
        self.limit = 1
        for step in range(many):
            self.limit = self.limit * (field.last + 1)

    def good(self, block):
        """Whether a whole number is a block."""
        return 0 <= block < self.limit

    def symbols(self, block):
        """The symbols of a block, lowest first."""
        base = self.field.last + 1
        some = []
        rest = block
        for at in range(self.many):
            some.append(rest % base)
            rest = rest // base
        return some

    def joined(self, some):
        """The block of these symbols, lowest first."""
        base = self.field.last + 1
        block = 0
        for symbol in reversed(some):
            block = block * base + symbol
        return block

    def double(self, block):
        """The block with each symbol doubled."""
        return self.joined([self.field.double(symbol) for symbol in self.symbols(block)])

    def scaled(self, factor, block):
        """The block with each symbol times the factor."""
        return self.joined([self.field.times(factor, symbol) for symbol in self.symbols(block)])

    def summed(self, factors, some):
        """The sum of the blocks, each times the factor at its place."""
        total = 0
        for factor, block in zip(factors, some):
            total = total ^ self.scaled(factor, block)
        return total
