"""What the tests reckon by themselves, by the words of the document and not by the program."""

# A good rule of each width, 4 to 8, and a second one for the least and the greatest.
GOOD_RULES = (19, 25, 37, 67, 131, 285, 351)


def doubled(rule, symbol):
    """The symbol doubled, by the words of point 8."""
    last = 2 ** (len(bin(rule)) - 3) - 1
    twice = symbol + symbol
    return twice ^ rule if twice > last else twice


def product(rule, one, other):
    """The product, by the words of point 9."""
    total = 0
    for place, digit in enumerate(reversed(bin(other)[2:])):
        if digit == "1":
            part = one
            for _ in range(place):
                part = doubled(rule, part)
            total ^= part
    return total


def after_of(rule):
    """How many doublings bring 1 back for the first time, 0 for a rule that is not looked at."""
    if not 16 <= rule <= 511 or rule % 2 == 0:
        return 0
    seen = [doubled(rule, 1)]
    while seen[-1] != 1:
        seen.append(doubled(rule, seen[-1]))
    return len(seen)


def digits_of(block, base, many):
    """The digits of a block, lowest first, read off one by one."""
    return [block // base ** place % base for place in range(many)]


def block_of(symbols, base):
    """The number with these digits, lowest first."""
    return sum(symbol * base ** place for place, symbol in enumerate(symbols))


def spread(limit, many):
    """Some numbers below the limit, from end to end, the same ones each time."""
    found = [0, 1, limit - 1, limit // 2]
    number = 7
    while len(found) < many:
        number = (number * 6364136223846793005 + 1442695040888963407) % 2 ** 192
        found.append((number >> 40) % limit)
    return found
