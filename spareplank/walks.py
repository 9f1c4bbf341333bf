"""The walk through all stripes, and mending one of them."""

from spareplank.verdicts import verdict_of


def walk_through(row):
    """What is told of each stripe, from the first on."""
    row.ready()
    told = []
    for stripe in range(row.shape.stripes):
        told.append(seen_in(row, stripe))
    return told


def seen_in(row, stripe):
    """("right", left), ("lies", plank, block) or ("open", one, other) of a stripe."""
    told = verdict_of(row.code, row.looked(stripe))
    if told[0] == "right":
        return ("right", told[2])
    if told[0] == "lies":
        return ("lies", row.shape.plank_of(stripe, told[1]), told[2][told[1]])
    return told


def mend_stripe(row, stripe):
    """Lays what the make of the stripe has where something else was; tells the planks, None where it is open."""
    row.shape.check_stripe(stripe)
    row.ready()
    seen = row.looked(stripe)
    told = verdict_of(row.code, seen)
    if told[0] == "open":
        return None
    pairs = pairs_to_mend(row, stripe, seen, told[1] if told[0] == "right" else told[2])
    if len(pairs) > 0:
        row.write_group([(stripe, pairs)])
    return [plank for plank, block in pairs]


def pairs_to_mend(row, stripe, seen, make):
    """The planks that are there and held anything else than the make's block, with that block, planks rising."""
    pairs = []
    for plank in range(row.rack.planks):
        role = row.shape.role_of(stripe, plank)
        if row.rack.there(plank, stripe) and seen[role] != make[role]:
            pairs.append((plank, make[role]))
    return pairs
