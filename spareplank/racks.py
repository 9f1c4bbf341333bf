"""The rack: planks, a slate for notes, power that may go, and the events."""

from spareplank.errors import NoPlace, NoPower, NoShape, WrongPlank
from spareplank.planks import LostPlank, Plank, SlowPlank, SparePlank
from spareplank.shapes import LEAST_PLANKS, MOST_PLANKS, MOST_STRIPES

MOST_SLOTS = 8
LEAST_COST = 2
MOST_COST = 9


def check_bounds(planks, stripes, slots):
    """Refuses with NoShape where a rack cannot have so many."""
    if planks < LEAST_PLANKS or planks > MOST_PLANKS:
        raise NoShape(f"a rack has {LEAST_PLANKS} to {MOST_PLANKS} planks, not {planks}")
    if stripes < 1 or stripes > MOST_STRIPES:
        raise NoShape(f"a rack has 1 to {MOST_STRIPES} stripes, not {stripes}")
    if slots < 1 or slots > MOST_SLOTS:
        raise NoShape(f"a rack has 1 to {MOST_SLOTS} slots, not {slots}")


class Rack:
    """Planks with equally many stripes, and a slate with slots."""

    def __init__(self, planks, stripes, slots):
        check_bounds(planks, stripes, slots)
        self.planks = planks
        self.stripes = stripes
        self.slots = slots
        self.shelf = [Plank([0] * stripes) for plank in range(planks)]
        self.slate = [None] * slots
        # None stands for power without end, so that no number of writes uses it up.
        self.left = None
        self.gone = False
        self.done = []

    def lose(self, plank):
        """From now on the plank is lost."""
        self.check_plank(plank)
        if isinstance(self.shelf[plank], LostPlank):
            raise WrongPlank(plank)
        self.shelf[plank] = LostPlank(self.stripes)

    def put_spare(self, plank, some=None):
        """From now on a spare stands in the place of a lost plank."""
        self.check_plank(plank)
        if not isinstance(self.shelf[plank], LostPlank):
            raise WrongPlank(plank)
        self.shelf[plank] = SparePlank([None] * self.stripes if some is None else some)

    def make_slow(self, plank, cost):
        """From now on the plank is slow, with this cost."""
        self.check_plank(plank)
        if cost < LEAST_COST or cost > MOST_COST:
            raise NoShape(f"a cost is from {LEAST_COST} to {MOST_COST}, not {cost}")
        if isinstance(self.shelf[plank], (LostPlank, SparePlank)):
            raise WrongPlank(plank)
        self.shelf[plank] = SlowPlank(self.shelf[plank].held, cost)

    def spoil(self, plank, stripe):
        """From now on the plank holds None there."""
        self.check_there(plank, stripe)
        self.shelf[plank].lay_at(stripe, None)

    def lie(self, plank, stripe, block):
        """From now on the plank holds this block there, and nothing shows it."""
        self.check_there(plank, stripe)
        self.shelf[plank].lay_at(stripe, block)

    def supply(self, left=None):
        """From now on there is power for so many single writes, or without end."""
        self.left = left
        self.gone = False

    def peek(self, plank, stripe):
        """What the plank holds there."""
        self.check_both(plank, stripe)
        return self.shelf[plank].look_at(stripe)

    def kind_of(self, plank):
        """The plank's word."""
        self.check_plank(plank)
        return self.shelf[plank].word()

    def cost_of(self, plank):
        """The plank's price."""
        self.check_plank(plank)
        return self.shelf[plank].price()

    def mark_of(self, plank):
        """The mark of a spare, None for any other plank."""
        self.check_plank(plank)
        if isinstance(self.shelf[plank], SparePlank):
            return self.shelf[plank].mark
        return None

    def there(self, plank, stripe):
        """Whether the plank is there for the stripe."""
        self.check_both(plank, stripe)
        return self.shelf[plank].there(stripe)

    def has_power(self):
        """Whether power has not gone."""
        return not self.gone

    def intents(self):
        """The notes that stand: slot, stripe and pairs of each, slots rising."""
        some = []
        for slot, note in enumerate(self.slate):
            if note is not None:
                some.append((slot, note[0], list(note[1])))
        return some

    def events(self):
        """What was done, the first one first."""
        return list(self.done)

    def look(self, plank, stripe):
        """What the plank holds there, None if it is not there for the stripe."""
        self.check_both(plank, stripe)
        if self.gone:
            raise NoPower("power has gone")
        self.done.append(("look", plank, stripe))
        if self.shelf[plank].there(stripe):
            return self.shelf[plank].look_at(stripe)
        return None

    def lay(self, plank, stripe, block):
        """The plank holds this block, or None, there."""
        self.check_both(plank, stripe)
        self.need_write()
        if isinstance(self.shelf[plank], LostPlank):
            raise WrongPlank(plank)
        self.shelf[plank].lay_at(stripe, block)
        self.spend(("lay", plank, stripe))

    def note(self, slot, stripe, pairs):
        """The slot holds this stripe and these pairs."""
        self.check_slot(slot)
        self.check_stripe(stripe)
        self.need_write()
        self.slate[slot] = (stripe, list(pairs))
        self.spend(("note", slot, stripe))

    def strike(self, slot):
        """The slot is empty."""
        self.check_slot(slot)
        self.need_write()
        self.slate[slot] = None
        self.spend(("strike", slot))

    def move_mark(self, plank):
        """The mark of a spare goes one on; a spare that is there for all stripes is whole."""
        self.check_plank(plank)
        self.need_write()
        spare = self.shelf[plank]
        if not isinstance(spare, SparePlank):
            raise WrongPlank(plank)
        spare.move()
        if spare.mark == self.stripes:
            self.shelf[plank] = Plank(spare.held)
        self.spend(("mark", plank, spare.mark))

    def need_write(self):
        """Refuses with NoPower where no single write can be done; power goes where none is left."""
        if self.left is not None and self.left < 1:
            self.gone = True
        if self.gone:
            raise NoPower("power has gone")

    def spend(self, event):
        """Keeps the event of a single write that was done, and counts the write."""
        if self.left is not None:
            self.left -= 1
        self.done.append(event)

    def check_slot(self, slot):
        """Refuses a slot that is not there."""
        if slot < 0 or slot >= self.slots:
            raise NoPlace(slot)

    def check_plank(self, plank):
        """Refuses a plank that is not there."""
        if plank < 0 or plank >= self.planks:
            raise NoPlace(plank)

    def check_stripe(self, stripe):
        """Refuses a stripe that is not there."""
        if stripe < 0 or stripe >= self.stripes:
            raise NoPlace(stripe)

    def check_both(self, plank, stripe):
        """Refuses a plank, then a stripe, that is not there."""
        self.check_plank(plank)
        self.check_stripe(stripe)

    def check_there(self, plank, stripe):
        """Refuses a plank that is not there for the stripe."""
        self.check_both(plank, stripe)
        if not self.shelf[plank].there(stripe):
            raise WrongPlank(plank)
