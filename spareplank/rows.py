"""The great row: reading, writing by notes, and coming up behind a fall."""

from spareplank.asking import Asking
from spareplank.errors import Gone, NoBlock, NoPlace, NoPower, NoShape, Standing
from spareplank.reading import read_role
from spareplank.writing import new_blocks


def check_together(code, shape, rack):
    """Refuses with NoShape a code, a shape and a rack that do not go together."""
    if code.data != shape.data or code.roles != shape.planks:
        raise NoShape("the code and the shape have unlike roles")
    if rack.planks != shape.planks or rack.stripes != shape.stripes:
        raise NoShape("the rack and the shape have unlike planks or stripes")


class Row:
    """The great row by a code and a shape, on a rack."""

    def __init__(self, code, shape, rack):
        check_together(code, shape, rack)
        self.code = code
        self.shape = shape
        self.rack = rack

    def ready(self):
        """Refuses with NoPower, then with Standing, where the rack is not ready."""
        self.check_power()
        stripes = self.standing()
        if len(stripes) > 0:
            raise Standing(stripes[0])

    def check_power(self):
        """Refuses with NoPower where power has gone."""
        if not self.rack.has_power():
            raise NoPower("power has gone")

    def standing(self):
        """The stripes of the notes that stand, slots rising."""
        return [note[1] for note in self.rack.intents()]

    def asking(self, stripe):
        """An Asking for the stripe, by the rack's looks and prices."""
        rack = self.rack
        order = self.shape.order_of(stripe)
        costs = [rack.cost_of(plank) if rack.there(plank, stripe) else None for plank in order]
        return Asking(self.code, lambda role: rack.look(order[role], stripe), costs)

    def looked(self, stripe):
        """What a look at each plank that is there for the stripe gives, by role, None for the other roles."""
        row = [None] * self.code.roles
        for plank in range(self.rack.planks):
            if self.rack.there(plank, stripe):
                row[self.shape.role_of(stripe, plank)] = self.rack.look(plank, stripe)
        return row

    def get(self, at):
        """The block at a place of the great row."""
        place = self.shape.place_of(at)
        self.ready()
        block = read_role(self.asking(place[0]), place[1])
        if block is None:
            raise Gone(place[0], self.shape.plank_of(place[0], place[1]))
        return block

    def put(self, at, some):
        """Writes the blocks from a place on; tells what was laid in each stripe."""
        self.check_news(at, some)
        self.ready()
        plan = []
        for stripe, news in self.news_by_stripe(at, some).items():
            plan.append((stripe, self.pairs_of(stripe, news)))
        for first in range(0, len(plan), self.rack.slots):
            self.write_group(plan[first:first + self.rack.slots])
        return plan

    def check_news(self, at, some):
        """Refuses places that the row does not have, then what is no block."""
        if at < 0 or len(some) == 0 or at + len(some) > self.shape.size:
            raise NoPlace(at)
        for block in some:
            if not self.code.blocks.good(block):
                raise NoBlock(block)

    def news_by_stripe(self, at, some):
        """For each stripe, as they rise, the new blocks by role."""
        news = {}
        for more, block in enumerate(some):
            place = self.shape.place_of(at + more)
            if place[0] not in news:
                news[place[0]] = {}
            news[place[0]][place[1]] = block
        return news

    def pairs_of(self, stripe, news):
        """The planks and blocks to lay for the new blocks of one stripe, planks rising."""
        laid = new_blocks(self.asking(stripe), news)
        if laid is None:
            raise Gone(stripe, self.shape.plank_of(stripe, sorted(news)[0]))
        return sorted([(self.shape.plank_of(stripe, role), laid[role]) for role in laid])

    def write_group(self, group):
        """Notes these stripes with their pairs, lays the pairs, then strikes the notes."""
        for slot, planned in enumerate(group):
            self.rack.note(slot, planned[0], planned[1])
        for stripe, pairs in group:
            for plank, block in pairs:
                self.rack.lay(plank, stripe, block)
        for slot in range(len(group)):
            self.rack.strike(slot)

    def up(self):
        """Finishes the notes that stand; tells for each its stripe and the planks on which a block was laid."""
        self.check_power()
        told = []
        for slot, stripe, pairs in self.rack.intents():
            told.append((stripe, self.laid_again(stripe, pairs)))
            self.rack.strike(slot)
        return told

    def laid_again(self, stripe, pairs):
        """Lays each pair that is not there yet, where its plank is; tells the planks."""
        planks = []
        for plank, block in pairs:
            if self.rack.there(plank, stripe) and self.rack.look(plank, stripe) != block:
                self.rack.lay(plank, stripe, block)
                planks.append(plank)
        return planks
