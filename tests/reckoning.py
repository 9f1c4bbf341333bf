"""What the tests reckon by themselves, by the words of the document and not by the program."""

from spareplank.blocks import Blocks
from spareplank.codes import Code
from spareplank.field import Field
from spareplank.racks import Rack
from spareplank.rows import Row
from spareplank.shapes import Shape, even_turns

# A good rule of each width, 4 to 8, and a second one for the least and the greatest.
GOOD_RULES = (19, 25, 37, 67, 131, 285, 351)


def doubled(rule, symbol):
    """The symbol doubled, by the words of point 8."""
    last = 2 ** (len(bin(rule)) - 3) - 1
    twice = symbol + symbol
    return twice ^ rule if twice > last else twice


def product(rule, one, other):
    """The product, by the words of point 9."""
    total = 0
    for place, digit in enumerate(reversed(bin(other)[2:])):
        if digit == "1":
            part = one
            for _ in range(place):
                part = doubled(rule, part)
            total ^= part
    return total


def after_of(rule):
    """How many doublings bring 1 back for the first time, 0 for a rule that is not looked at."""
    if not 16 <= rule <= 511 or rule % 2 == 0:
        return 0
    seen = [doubled(rule, 1)]
    while seen[-1] != 1:
        seen.append(doubled(rule, seen[-1]))
    return len(seen)


def digits_of(block, base, many):
    """The digits of a block, lowest first, read off one by one."""
    return [block // base ** place % base for place in range(many)]


def block_of(symbols, base):
    """The number with these digits, lowest first."""
    return sum(symbol * base ** place for place, symbol in enumerate(symbols))


def spread(limit, many):
    """Some numbers below the limit, from end to end, the same ones each time."""
    found = [0, 1, limit - 1, limit // 2]
    number = 7
    while len(found) < many:
        number = (number * 6364136223846793005 + 1442695040888963407) % 2 ** 192
        found.append((number >> 40) % limit)
    return found


def line_sum(rule, line, symbols):
    """The sum of the products, place by place."""
    total = 0
    for one, other in zip(line, symbols):
        total ^= product(rule, one, other)
    return total


def rank_of(rule, lines, places):
    """The rank of one or two lines at these places, read off their products crosswise."""
    cut = [[line[place] for place in places] for line in lines]
    if len(cut) == 2:
        for one in range(len(places)):
            for other in range(one):
                if product(rule, cut[0][one], cut[1][other]) != product(rule, cut[0][other], cut[1][one]):
                    return 2
    return 1 if any(any(line) for line in cut) else 0


def fixed(rule, lines, known, role):
    """Whether the known roles fix a role by one or two equations: else it may move while they stay."""
    if known[role]:
        return True
    unknown = [place for place in range(len(known)) if not known[place]]
    others = [place for place in unknown if place != role]
    return rank_of(rule, lines, unknown) > rank_of(rule, lines, others)


def block_times(rule, many, factor, block):
    """The block with each symbol times the factor."""
    base = 2 ** (len(bin(rule)) - 3)
    return block_of([product(rule, factor, symbol) for symbol in digits_of(block, base, many)], base)


def weighted(rule, many, weights, some):
    """The sum of the blocks, each times its weight."""
    total = 0
    for weight, block in zip(weights, some):
        total ^= block_times(rule, many, weight, block)
    return total


def make_of(rule, many, weights, some):
    """The make of these data blocks, by the words of point 23."""
    return list(some) + [weighted(rule, many, line, some) for line in weights]


def is_right(rule, many, weights, row):
    """Whether all sums of a list of blocks are right."""
    data = len(weights[0])
    return list(row) == make_of(rule, many, weights, row[:data])


def lines_of(weights):
    """The equations of these weights, by the words of point 21."""
    return [list(line) + [int(other == total) for other in range(len(weights))] for total, line in enumerate(weights)]


# Weights of many forms: plain ones, sums that touch not all roles, weights alike, one data role alone.
WEIGHTS = (
    ((1, 1, 1),),
    ((1,),),
    ((7,),),
    ((1, 2, 3, 4, 5, 6, 7),),
    ((9, 1, 15, 4),),
    ((1, 1, 1, 1), (1, 2, 3, 4)),
    ((1, 1, 1, 1, 1, 1), (1, 2, 3, 4, 5, 6)),
    ((1,), (1,)),
    ((3,), (8,)),
    ((1, 1), (1, 1)),
    ((1, 0), (0, 1)),
    ((1, 1, 0, 0), (0, 0, 1, 1)),
    ((1, 0, 0), (0, 5, 6)),
    ((1, 1, 1), (0, 0, 4)),
    ((0, 1, 1, 1, 2), (1, 1, 1, 1, 2)),
    ((2, 4, 6), (1, 2, 3)),
    ((5, 0, 1, 0, 7, 9), (9, 7, 0, 1, 3, 0)),
)


def code_of(weights, rule=19, many=2):
    """A code of the program's, by copies of these weights."""
    return Code(Blocks(Field(rule), many), [list(line) for line in weights])


class Stripe:
    """A stripe that counts how it is asked."""

    def __init__(self, blocks):
        self.blocks = list(blocks)
        self.calls = []

    def ask(self, role):
        self.calls.append(role)
        return self.blocks[role]


def drawn_stripe(source, weights, unread=0.2, away=0.2):
    """A stripe that is part of a make, costs for it, and the make."""
    data = [source.randrange(256) for _ in weights[0]]
    make = make_of(19, 2, weights, data)
    costs = [None if source.random() < away else source.choice((1, 1, 1, 2, 3, 5, 9)) for _ in make]
    stripe = Stripe([None if source.random() < unread else block for block in make])
    return stripe, costs, make


def all_fixed(lines, known, some):
    """Whether the known roles fix each role of a list, by the rule 19."""
    return all(fixed(19, lines, known, role) for role in some)


def known_of(blocks, asked):
    """Which roles are known, once these were asked."""
    return [role in asked and block is not None for role, block in enumerate(blocks)]


def way_to(lines, blocks, costs, asked, some):
    """The detour of point 38 to a list of roles."""
    known = known_of(blocks, asked)
    order = sorted((role for role in range(len(blocks)) if costs[role] is not None and role not in asked),
                   key=lambda role: (costs[role], role))
    for many in range(len(order) + 1):
        if all_fixed(lines, [is_known or role in order[:many] for role, is_known in enumerate(known)], some):
            return order[:many]
    return None


def ask_along(blocks, asked, way):
    """Asks the roles of a way up to the first that reads as none."""
    for role in way:
        asked.append(role)
        if blocks[role] is None:
            return


def reading_due(weights, blocks, costs, role):
    """The roles that point 39 asks, in their order, by the rule 19."""
    lines = lines_of(weights)
    asked = []
    while not fixed(19, lines, known_of(blocks, asked), role):
        way = way_to(lines, blocks, costs, asked, [role])
        if way is None:
            break
        askable = costs[role] is not None and role not in asked
        if askable and costs[role] <= sum(costs[other] for other in way):
            way = [role]
        ask_along(blocks, asked, way)
    return asked


def writing_due(weights, blocks, costs, news):
    """The roles that point 40 asks, in their order, and those that point 42 lays, or None, by the rule 19."""
    lines, data, asked = lines_of(weights), len(weights[0]), []
    sums = [data + total for total, line in enumerate(weights)
            if costs[data + total] is not None and any(line[role] for role in news)]
    hit = [role for role in range(data) if any(weights[one - data][role] for one in sums)]
    rest, change = [role for role in hit if role not in news], [role for role in hit if role in news] + sums
    while True:
        known = known_of(blocks, asked)
        if all_fixed(lines, known, rest) or all_fixed(lines, known, change):
            break
        ways = []
        for some in (rest, change):
            loose = [role for role in some if not fixed(19, lines, known, role)]
            if all(costs[role] is not None and role not in asked for role in loose):
                ways.append(loose)
        detours = [way_to(lines, blocks, costs, asked, some) for some in (rest, change)]
        ways.extend(sorted((way for way in detours if way is not None), key=len)[:1])
        if not ways:
            return asked, None
        prices = [sum(costs[role] for role in way) for way in ways]
        ask_along(blocks, asked, ways[prices.index(min(prices))])
    laid = [role for role in sorted(news) if costs[role] is not None] + sums
    known = [is_known or role in laid for role, is_known in enumerate(known)]
    return asked, laid if all_fixed(lines, known, news) else None


def span_rank(rule, rows):
    """The rank of any number of lines."""
    rows, rank = [list(row) for row in rows], 0
    for place in range(len(rows[0]) if rows else 0):
        heads = [row for row in rows[rank:] if row[place]]
        if not heads:
            continue
        head = heads[0]
        rows.remove(head)
        rows.insert(rank, head)
        for at in range(rank + 1, len(rows)):
            # Both crosswise multiples are alike at this place, so their sum is 0 there.
            one, other = rows[at][place], head[place]
            if one:
                rows[at] = [product(rule, other, here) ^ product(rule, one, there) for here, there in zip(rows[at], head)]
        rank += 1
    return rank


def row_of(weights, stripes=5, slots=2, step=1):
    """A Row of the program's on a new rack, by the rule 19 with two symbols in a block and even turns."""
    planks = len(weights[0]) + len(weights)
    shape = Shape(len(weights[0]), planks, stripes, even_turns(planks, step))
    return Row(code_of(weights), shape, Rack(planks, stripes, slots))


def makes_by(weights, truth):
    """The make of each stripe of a great row, given as a plain list of its blocks."""
    data = len(weights[0])
    return [make_of(19, 2, weights, truth[at:at + data]) for at in range(0, len(truth), data)]


def blocks_of(row, stripe):
    """What stands in a stripe, by role, None for its gaps."""
    planks = row.shape.order_of(stripe)
    return [row.rack.peek(plank, stripe) if row.rack.there(plank, stripe) else None for plank in planks]


def costs_of(row, stripe):
    """The prices of a stripe's roles, None for those that are not there."""
    planks = row.shape.order_of(stripe)
    return [row.rack.cost_of(plank) if row.rack.there(plank, stripe) else None for plank in planks]


def wrong_in(row, weights, truth):
    """The stripes and roles in which something stands that is not part of the truth."""
    return [(stripe, role) for stripe, make in enumerate(makes_by(weights, truth))
            for role, block in enumerate(blocks_of(row, stripe)) if block is not None and block != make[role]]


def is_fixed(row, weights, at):
    """Whether what stands fixes a block of the great row."""
    stripe, role = divmod(at, len(weights[0]))
    return fixed(19, lines_of(weights), [block is not None for block in blocks_of(row, stripe)], role)


def state_of(rack):
    """All that a rack tells without power, but for its events."""
    planks = [(rack.kind_of(plank), rack.cost_of(plank), rack.mark_of(plank),
               [(rack.peek(plank, stripe), rack.there(plank, stripe)) for stripe in range(rack.stripes)])
              for plank in range(rack.planks)]
    return planks, rack.has_power(), rack.intents()


def befall(source, row, gaps):
    """Loses, slows and spoils planks, and puts in spares, so that no stripe comes to more gaps than told."""
    rack = row.rack
    for _ in range(source.randint(0, 4)):
        plank, stripe = source.randrange(rack.planks), source.randrange(rack.stripes)
        word = rack.kind_of(plank)
        held = [len([one for one in range(rack.planks) if one != plank
                     and (not rack.there(one, at) or rack.peek(one, at) is None)]) for at in range(rack.stripes)]
        deed = source.randrange(4)
        if deed == 0 and word in ("whole", "slow"):
            rack.make_slow(plank, source.randint(2, 9))
        elif deed == 1 and word == "lost":
            rack.put_spare(plank, [source.choice((None, source.randrange(256))) for _ in range(rack.stripes)])
        elif deed == 2 and rack.there(plank, stripe) and held[stripe] < gaps:
            rack.spoil(plank, stripe)
        elif deed == 3 and word != "lost" and max(held) < gaps:
            rack.lose(plank)
