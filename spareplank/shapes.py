"""Shapes: on which plank each role of each stripe lies, and which block of the great row it is."""

from spareplank.errors import NoPlace, NoShape

LEAST_PLANKS = 2
MOST_PLANKS = 8
MOST_SUMS = 2
MOST_STRIPES = 32
MOST_TURNS = 16


def even_turn(planks, shift):
    """The turn in which each role lies so many planks on."""
    return [(role + shift) % planks for role in range(planks)]


def even_turns(planks, step):
    """As many turns as there are planks, each by the step further than the one ahead of it."""
    if planks < LEAST_PLANKS or planks > MOST_PLANKS:
        raise NoShape(f"there are {LEAST_PLANKS} to {MOST_PLANKS} planks, not {planks}")
    return [even_turn(planks, step * at) for at in range(planks)]


def check_counts(data, planks, stripes):
    """Refuses with NoShape where these numbers make no shape."""
    if planks < LEAST_PLANKS or planks > MOST_PLANKS:
        raise NoShape(f"there are {LEAST_PLANKS} to {MOST_PLANKS} planks, not {planks}")
    if data < 1 or data >= planks or planks - data > MOST_SUMS:
        raise NoShape(f"{planks} planks cannot bear {data} data roles")
    if stripes < 1 or stripes > MOST_STRIPES:
        raise NoShape(f"there are 1 to {MOST_STRIPES} stripes, not {stripes}")


def check_turns(planks, turns):
    """Refuses with NoShape where there are too few or too many turns, or one is no turn of so many planks."""
    if len(turns) < 1 or len(turns) > MOST_TURNS:
        raise NoShape(f"there are 1 to {MOST_TURNS} turns")
    for turn in turns:
        if sorted(turn) != list(range(planks)):
            raise NoShape(f"{turn} is no turn of {planks} planks")


class Shape:
    """So many data roles, planks and stripes, and the turns by which the roles lie on the planks."""

    def __init__(self, data, planks, stripes, turns):
        check_counts(data, planks, stripes)
        check_turns(planks, turns)
        self.data = data
        self.planks = planks
        self.stripes = stripes
        self.size = data * stripes
        self.turns = [list(turn) for turn in turns]

    def place_of(self, at):
        """The stripe and the role of the block at a place of the great row."""
        if at < 0 or at >= self.size:
            raise NoPlace(at)
        return (at // self.data, at % self.data)

    def number_of(self, stripe, role):
        """The place in the great row of a data role's block."""
        self.check_stripe(stripe)
        if role < 0 or role >= self.data:
            raise NoPlace(role)
        return stripe * self.data + role

    def plank_of(self, stripe, role):
        """The plank on which a role lies."""
        turn = self.order_of(stripe)
        if role < 0 or role >= self.planks:
            raise NoPlace(role)
        return turn[role]

    def role_of(self, stripe, plank):
        """The role that lies on a plank."""
        turn = self.order_of(stripe)
        if plank < 0 or plank >= self.planks:
            raise NoPlace(plank)
        return turn.index(plank)

    def order_of(self, stripe):
        """The planks of a stripe, by role."""
        self.check_stripe(stripe)
        return list(self.turns[stripe % len(self.turns)])

    def check_stripe(self, stripe):
        """Refuses a stripe that is not there."""
        if stripe < 0 or stripe >= self.stripes:
            raise NoPlace(stripe)
