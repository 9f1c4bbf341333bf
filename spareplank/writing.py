"""Writing new blocks to one stripe: what is to be asked, and what is to be laid."""

from spareplank.asking import fixes_all


def touched(code, totals, role):
    """Whether one of these sums touches a data role."""
    return any([code.touches(total, role) for total in totals])


def sums_to_write(asking, news):
    """The numbers of the sums that are there and touch a role of the news."""
    code = asking.code
    totals = [total for total in range(code.sums) if asking.costs[code.data + total] is not None]
    return [total for total in totals if any([code.touches(total, role) for role in sorted(news)])]


def rest_of(code, totals, news):
    """The data roles out of the news that the sums to write touch."""
    return [role for role in range(code.data) if role not in news and touched(code, totals, role)]


def change_of(code, totals, news):
    """The roles of the news that the sums to write touch, and the sums' own roles."""
    return [role for role in sorted(news) if touched(code, totals, role)] + [code.data + total for total in totals]


def next_way(asking, rest, change):
    """The roles to ask next, by the cheapest way; None where there is none."""
    ways = []
    for some in (rest, change):
        price = asking.price(some)
        if price is not None:
            ways.append((price, asking.unfixed(some)))
    detours = [way for way in (asking.detour(rest), asking.detour(change)) if way is not None]
    if len(detours) > 0:
        shorter = min(detours, key=len)
        ways.append((asking.cost_sum(shorter), shorter))
    if len(ways) == 0:
        return None
    # Of equal prices min takes the first: the rest, then the change.
    return min(ways, key=lambda way: way[0])[1]


def sum_by_rest(asking, news, total):
    """The new sum, of all the data blocks that it touches."""
    code = asking.code
    line = code.equations()[total]
    roles = [role for role in range(code.data) if line[role] != 0]
    some = [news[role] if role in news else asking.block_of(role) for role in roles]
    return code.blocks.summed([line[role] for role in roles], some)


def sum_by_change(asking, news, total):
    """The new sum, of the old one and of what changes in the roles of the news that it touches."""
    code = asking.code
    line = code.equations()[total]
    roles = [role for role in sorted(news) if line[role] != 0]
    some = [asking.block_of(role) ^ news[role] for role in roles]
    return asking.block_of(code.data + total) ^ code.blocks.summed([line[role] for role in roles], some)


def to_lay(asking, news, totals, by_rest):
    """The new blocks of the roles that are there, and the new sums, roles rising."""
    laid = {}
    for role in sorted(news):
        if asking.costs[role] is not None:
            laid[role] = news[role]
    for total in totals:
        role = asking.code.data + total
        laid[role] = sum_by_rest(asking, news, total) if by_rest else sum_by_change(asking, news, total)
    return laid


def new_blocks(asking, news):
    """What is to be laid for the news, by role; None where the stripe could not tell them back."""
    code = asking.code
    totals = sums_to_write(asking, news)
    rest = rest_of(code, totals, news)
    change = change_of(code, totals, news)
    while not asking.fixes(rest) and not asking.fixes(change):
        way = next_way(asking, rest, change)
        if way is None:
            return None
        asking.take_along(way)
    laid = to_lay(asking, news, totals, asking.fixes(rest))
    known = [is_known or role in laid for role, is_known in enumerate(asking.known())]
    # A role of the news that is there is laid, so that only those that are not there are in question.
    if not fixes_all(code, known, sorted(news)):
        return None
    return laid
