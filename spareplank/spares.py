"""Bringing a spare on, stripe by stripe."""

from spareplank.errors import WrongPlank
from spareplank.reading import read_role


def step_spare(row, plank):
    """Lays the block of the next stripe on a spare and moves its mark; tells whether a block could be reckoned."""
    # The mark is asked ahead of the rest, so that a plank that is not there is refused first.
    stripe = row.rack.mark_of(plank)
    row.ready()
    if stripe is None:
        raise WrongPlank(plank)
    block = read_role(row.asking(stripe), row.shape.role_of(stripe, plank))
    row.rack.lay(plank, stripe, block)
    row.rack.move_mark(plank)
    return block is not None


def run_spare(row, plank, many):
    """Does so many steps, but none once the plank is no spare any more; tells what the steps told."""
    told = []
    while len(told) < many:
        told.append(step_spare(row, plank))
        if row.rack.mark_of(plank) is None:
            break
    return told
