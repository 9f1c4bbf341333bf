"""A small field: symbols, with sums by exclusive or and products by doubling."""

from spareplank.errors import NoBack, NoField

LEAST_RULE = 16
GREATEST_RULE = 511


class Field:
    """The symbols from 0 to last, as the rule doubles them."""

    def __init__(self, rule):
        if rule < LEAST_RULE or rule > GREATEST_RULE or rule % 2 == 0:
            raise NoField(rule, 0)
        self.rule = rule
        self.width = rule.bit_length() - 1
        self.last = (1 << self.width) - 1
        after = self.doublings_of_one()
        if after != self.last:
            raise NoField(rule, after)

    def doublings_of_one(self):
        """How many doublings, 1 at least, bring 1 back for the first time."""
        # By an odd rule no two symbols have the same double, so 1 does come back.
        symbol = self.double(1)
        after = 1
        while symbol != 1:
            symbol = self.double(symbol)
            after += 1
        return after

    def double(self, one):
        """The symbol doubled."""
        twice = 2 * one
        if twice > self.last:
            return twice ^ self.rule
        return twice

    def times(self, one, other):
        """The product of two symbols."""
        product = 0
        doubled = one
        digits = other
        while digits > 0:
            if digits % 2 == 1:
                product = product ^ doubled
            doubled = self.double(doubled)
            digits = digits // 2
        return product

    def back(self, one):
        """The symbol whose product with this one is 1; raises NoBack for 0."""
        if one == 0:
            raise NoBack("0 has no back")
        # Every symbol but 0 is 1 doubled some times, so its power by last is 1.
        return self.power(one, self.last - 1)

    def power(self, one, many):
        """The product of as many times the symbol; 1 for no times."""
        product = 1
        # The symbol, squared again and again, stands for the binary digits of many: many may be large.
        square = one
        digits = many
        while digits > 0:
            if digits % 2 == 1:
                product = self.times(product, square)
            square = self.times(square, square)
            digits = digits // 2
        return product

    def table(self, one):
        """The products of the symbol with 0, 1, 2 and so on up to last."""
        return [self.times(one, other) for other in range(self.last + 1)]
