"""The refusals: each an error class of its own, all straight under PlankError."""


class PlankError(ValueError):
    """Any refusal."""


class NoField(PlankError):
    """A rule that makes no field; after tells how many doublings bring 1 back, or is 0."""

    def __init__(self, rule, after):
        PlankError.__init__(self, f"no field by the rule {rule}: 1 comes back after {after}")
        self.rule = rule
        self.after = after


class NoBack(PlankError):
    """A symbol that has no back."""


class NoCode(PlankError):
    """Weights that make no code."""


class NoShape(PlankError):
    """Numbers or lists that make no shape, no blocks, no rack or no row."""


class NoPlace(PlankError):
    """A number of which there is no place, stripe, role, plank, slot or sum."""

    def __init__(self, place):
        PlankError.__init__(self, f"there is no place {place}")
        self.place = place


class NoBlock(PlankError):
    """A number that is no block."""

    def __init__(self, block):
        PlankError.__init__(self, f"{block} is no block")
        self.block = block


class Gone(PlankError):
    """A block that nothing that stands in its stripe fixes."""

    def __init__(self, stripe, plank):
        PlankError.__init__(self, f"what plank {plank} bears in stripe {stripe} is gone")
        self.stripe = stripe
        self.plank = plank


class Standing(PlankError):
    """A note of this stripe still stands on the slate."""

    def __init__(self, stripe):
        PlankError.__init__(self, f"a note of stripe {stripe} stands")
        self.stripe = stripe


class NoPower(PlankError):
    """Power has gone."""


class WrongPlank(PlankError):
    """A plank of a kind with which this cannot be done."""

    def __init__(self, plank):
        PlankError.__init__(self, f"plank {plank} is of the wrong kind for this")
        self.plank = plank


class NoLine(PlankError):
    """Something that is no line, or a text that writes no block."""
