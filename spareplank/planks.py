"""Planks: what holds the blocks, whole, slow, lost or a spare."""


class Plank:
    """A whole plank: it is there for every stripe."""

    def __init__(self, held):
        self.held = list(held)

    def there(self, at):
        """Whether the plank is there for a stripe."""
        return True

    def price(self):
        """What a look costs."""
        return 1

    def word(self):
        """The word for planks of this kind."""
        return "whole"

    def look_at(self, at):
        """The block that the plank holds for a stripe, or None."""
        return self.held[at]

    def lay_at(self, at, block):
        """From now on the plank holds this block, or None, for the stripe."""
        self.held[at] = block


class SlowPlank(Plank):
    """A plank that is there for every stripe, at a cost."""

    def __init__(self, held, cost):
        Plank.__init__(self, held)
        self.cost = cost

    def price(self):
        """What a look costs."""
        return self.cost

    def word(self):
        """The word for planks of this kind."""
        return "slow"


class LostPlank(Plank):
    """A plank that is there for no stripe and holds nothing."""

    def __init__(self, many):
        Plank.__init__(self, [None] * many)

    def there(self, at):
        """Whether the plank is there for a stripe."""
        return False

    def word(self):
        """The word for planks of this kind."""
        return "lost"

    def lay_at(self, at, block):
        """Forgets what is laid."""
        pass


class SparePlank(Plank):
    """A plank that is there for the stripes below its mark."""

    def __init__(self, held):
        Plank.__init__(self, held)
        self.mark = 0

    def there(self, at):
        """Whether the plank is there for a stripe."""
        return at < self.mark

    def word(self):
        """The word for planks of this kind."""
        return "spare"

    def move(self):
        """The mark goes one on."""
        self.mark += 1
