"""An Asking: what is known of one stripe while it is asked role by role."""


def fixes_all(code, known, some):
    """Whether the known roles fix each role of the list."""
    for role in some:
        if not code.fixes(known, role):
            return False
    return True


class Asking:
    """One stripe of a code, the function that asks a role, and what asking costs."""

    def __init__(self, code, ask, costs):
        self.code = code
        self.ask = ask
        self.costs = list(costs)
        self.row = [None] * code.roles
        self.asked = []

    def may(self, role):
        """Whether the role may be asked: it is there and was not asked."""
        return self.costs[role] is not None and role not in self.asked

    def take(self, role):
        """Asks the role if it may be asked; tells its block where one is known."""
        if self.may(role):
            self.asked.append(role)
            self.row[role] = self.ask(role)
        return self.row[role]

    def take_along(self, some):
        """Takes the roles in their order, up to the first for which no block comes."""
        for role in some:
            if self.take(role) is None:
                break

    def known(self):
        """For each role, whether it is known."""
        return [block is not None for block in self.row]

    def fixes(self, some):
        """Whether the known roles fix each role of the list."""
        return fixes_all(self.code, self.known(), some)

    def unfixed(self, some):
        """Those roles of the list that the known ones do not fix."""
        known = self.known()
        return [role for role in some if not self.code.fixes(known, role)]

    def cost_sum(self, some):
        """What it costs to ask all these roles, each of which is there."""
        return sum([self.costs[role] for role in some])

    def price(self, some):
        """What it costs to ask all that is not fixed; None where one of these may not be asked."""
        left = self.unfixed(some)
        if not all([self.may(role) for role in left]):
            return None
        return self.cost_sum(left)

    def order(self):
        """The roles that may be asked, the cheapest first, of equal ones the lower first."""
        free = [role for role in range(self.code.roles) if self.may(role)]
        return sorted(free, key=lambda role: (self.costs[role], role))

    def detour(self, some):
        """The shortest beginning of the order that, once known, fixes the list; None where there is none."""
        order = self.order()
        known = self.known()
        way = []
        while not fixes_all(self.code, known, some):
            if len(way) == len(order):
                return None
            role = order[len(way)]
            known[role] = True
            way.append(role)
        return way

    def block_of(self, role):
        """The block of the role, None where the known roles do not fix it."""
        return self.code.reckoned(self.row, role)
