"""What the tests reckon by themselves, by the words of the document and not by the program."""

from spareplank.blocks import Blocks
from spareplank.codes import Code
from spareplank.field import Field

# A good rule of each width, 4 to 8, and a second one for the least and the greatest.
GOOD_RULES = (19, 25, 37, 67, 131, 285, 351)


def doubled(rule, symbol):
    """The symbol doubled, by the words of point 8."""
    last = 2 ** (len(bin(rule)) - 3) - 1
    twice = symbol + symbol
    return twice ^ rule if twice > last else twice


def product(rule, one, other):
    """The product, by the words of point 9."""
    total = 0
    for place, digit in enumerate(reversed(bin(other)[2:])):
        if digit == "1":
            part = one
            for _ in range(place):
                part = doubled(rule, part)
            total ^= part
    return total


def after_of(rule):
    """How many doublings bring 1 back for the first time, 0 for a rule that is not looked at."""
    if not 16 <= rule <= 511 or rule % 2 == 0:
        return 0
    seen = [doubled(rule, 1)]
    while seen[-1] != 1:
        seen.append(doubled(rule, seen[-1]))
    return len(seen)


def digits_of(block, base, many):
    """The digits of a block, lowest first, read off one by one."""
    return [block // base ** place % base for place in range(many)]


def block_of(symbols, base):
    """The number with these digits, lowest first."""
    return sum(symbol * base ** place for place, symbol in enumerate(symbols))


def spread(limit, many):
    """Some numbers below the limit, from end to end, the same ones each time."""
    found = [0, 1, limit - 1, limit // 2]
    number = 7
    while len(found) < many:
        number = (number * 6364136223846793005 + 1442695040888963407) % 2 ** 192
        found.append((number >> 40) % limit)
    return found


def line_sum(rule, line, symbols):
    """The sum of the products, place by place."""
    total = 0
    for one, other in zip(line, symbols):
        total ^= product(rule, one, other)
    return total


def rank_of(rule, lines, places):
    """The rank of one or two lines at these places, read off their products crosswise."""
    cut = [[line[place] for place in places] for line in lines]
    if len(cut) == 2:
        for one in range(len(places)):
            for other in range(one):
                if product(rule, cut[0][one], cut[1][other]) != product(rule, cut[0][other], cut[1][one]):
                    return 2
    return 1 if any(any(line) for line in cut) else 0


def fixed(rule, lines, known, role):
    """Whether the known roles fix a role by one or two equations: else it may move while they stay."""
    if known[role]:
        return True
    unknown = [place for place in range(len(known)) if not known[place]]
    others = [place for place in unknown if place != role]
    return rank_of(rule, lines, unknown) > rank_of(rule, lines, others)


def block_times(rule, many, factor, block):
    """The block with each symbol times the factor."""
    base = 2 ** (len(bin(rule)) - 3)
    return block_of([product(rule, factor, symbol) for symbol in digits_of(block, base, many)], base)


def weighted(rule, many, weights, some):
    """The sum of the blocks, each times its weight."""
    total = 0
    for weight, block in zip(weights, some):
        total ^= block_times(rule, many, weight, block)
    return total


def make_of(rule, many, weights, some):
    """The make of these data blocks, by the words of point 23."""
    return list(some) + [weighted(rule, many, line, some) for line in weights]


def is_right(rule, many, weights, row):
    """Whether all sums of a list of blocks are right."""
    data = len(weights[0])
    return list(row) == make_of(rule, many, weights, row[:data])


def lines_of(weights):
    """The equations of these weights, by the words of point 21."""
    return [list(line) + [int(other == total) for other in range(len(weights))] for total, line in enumerate(weights)]


# Weights of many forms: plain ones, sums that touch not all roles, weights alike, one data role alone.
WEIGHTS = (
    ((1, 1, 1),),
    ((1,),),
    ((7,),),
    ((1, 2, 3, 4, 5, 6, 7),),
    ((9, 1, 15, 4),),
    ((1, 1, 1, 1), (1, 2, 3, 4)),
    ((1, 1, 1, 1, 1, 1), (1, 2, 3, 4, 5, 6)),
    ((1,), (1,)),
    ((3,), (8,)),
    ((1, 1), (1, 1)),
    ((1, 0), (0, 1)),
    ((1, 1, 0, 0), (0, 0, 1, 1)),
    ((1, 0, 0), (0, 5, 6)),
    ((1, 1, 1), (0, 0, 4)),
    ((0, 1, 1, 1, 2), (1, 1, 1, 1, 2)),
    ((2, 4, 6), (1, 2, 3)),
    ((5, 0, 1, 0, 7, 9), (9, 7, 0, 1, 3, 0)),
)


def code_of(weights, rule=19, many=2):
    """A code of the program's, by copies of these weights."""
    return Code(Blocks(Field(rule), many), [list(line) for line in weights])


class Stripe:
    """A stripe that counts how it is asked."""

    def __init__(self, blocks):
        self.blocks = list(blocks)
        self.calls = []

    def ask(self, role):
        self.calls.append(role)
        return self.blocks[role]


def drawn_stripe(source, weights, unread=0.2, away=0.2):
    """A stripe that is part of a make, costs for it, and the make."""
    data = [source.randrange(256) for _ in weights[0]]
    make = make_of(19, 2, weights, data)
    costs = [None if source.random() < away else source.choice((1, 1, 1, 2, 3, 5, 9)) for _ in make]
    stripe = Stripe([None if source.random() < unread else block for block in make])
    return stripe, costs, make
