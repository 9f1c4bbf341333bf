"""Reading one role of a stripe, by itself or by a detour."""


def read_role(asking, role):
    """The block of the role, None where what stands in the stripe does not fix it."""
    while not asking.fixes([role]):
        way = asking.detour([role])
        if way is None:
            return None
        if asking.may(role) and asking.costs[role] <= asking.cost_sum(way):
            asking.take(role)
        else:
            asking.take_along(way)
    return asking.block_of(role)
